/-
  Layer 10: the walk of CellReads: whatever the cell and the bytes, it is true. Conditions: the cell is what its kind holds. (Printed by gen_reads10.py.)
-/
import Derived.Test.YtofjkaemakdmeaaCelO
import Derived.Test.YtofjkaemakdmeaaCelM
namespace Go.Proofs.Ytofjkaemakdmeaa
open Go.RowKit

set_option maxRecDepth 10000 in
theorem eq_cellm (x : Cel) (hx : x.2.1.length = 16) (w : World) : Sem.run Try.prog (Op.equalIn 10000 26 (cv x) (cv x)) w = .ok true w := by
  obtain ⟨c, m, k⟩ := x
  obtain ⟨m0, m1, m2, m3, m4, m5, m6, m7, m8, m9, m10, m11, m12, m13, m14, m15, rfl⟩ := sixteen m hx
  clear hx
  have e : Sem.run Try.prog (Op.equalIn 9999 23 (.agg #[.int .u8 m0, .int .u8 m1, .int .u8 m2, .int .u8 m3, .int .u8 m4, .int .u8 m5, .int .u8 m6, .int .u8 m7, .int .u8 m8, .int .u8 m9, .int .u8 m10, .int .u8 m11, .int .u8 m12, .int .u8 m13, .int .u8 m14, .int .u8 m15]) (.agg #[.int .u8 m0, .int .u8 m1, .int .u8 m2, .int .u8 m3, .int .u8 m4, .int .u8 m5, .int .u8 m6, .int .u8 m7, .int .u8 m8, .int .u8 m9, .int .u8 m10, .int .u8 m11, .int .u8 m12, .int .u8 m13, .int .u8 m14, .int .u8 m15])) w = .ok true w := run_mark_same 9997 [m0, m1, m2, m3, m4, m5, m6, m7, m8, m9, m10, m11, m12, m13, m14, m15] rfl w
  dsimp only [cv, cellV, cellL, markL, List.map_cons, List.map_nil, List.cons_append, List.nil_append]
  go_simp
theorem getC_len (zs : List Int) : (getC zs).1.2.1.length = 16 := by
  unfold getC getOf
  split
  · dsimp only
    split
    · exact markOf_length _ (by have := fixN_le (readN zs 0 18446744073709551615).2.1 (readN zs 0 18446744073709551615).2.2 16 (by decide); omega)
    · rfl
  · rfl
theorem load_cellm {w : World} {B : Nat} {x : Cel} (hx : x.2.1.length = 16) (h : Blk w B 26 (cl x)) : (Instr.loadAt 26 (.pointer (some ⟨B, 0, none⟩))).run Try.prog w = .ok (cv x) w := cell_whole hx h
/-- The region that makes the two eyes. -/
structure RdS (W : World) (zs : List Int) (bs : List Bool) (g : Nat × Nat) (w : World) : Prop where
  kp : Kp Nb W w
  eye : bs[0]?.getD false = true → EyeAt w g.1 zs 0 ∧ W.heap.size ≤ g.1
  ref : bs[1]?.getD false = true → RefAt w g.2 zs 0 ∧ W.heap.size ≤ g.2
  ne : bs[0]?.getD false = true → bs[1]?.getD false = true → g.1 ≠ g.2
/-- The last region. -/
structure RfS (W : World) (ws : List Int) (bs : List Bool) (g : Value) (w : World) : Prop where
  kp : Kp Nb W w
  by' : bs[0]?.getD false = true → BySl Nb w g ws
theorem RfS.keptN {W : World} {ws : List Int} {bs : List Bool} {g : Value} {w w' : World} (h : RfS W ws bs g w) (k : Kp Nb w w') : RfS W ws bs g w' := ⟨h.kp.trans k (fun _ _ h => h), fun e => (h.by' e).kept k (fun _ h => h)⟩
theorem BySl.sizeLe {S : Nat → Prop} {w : World} {v : Value} {zs : List Int} (h : BySl S w v zs) : ∃ y d, v = .slice y zs.length d := by
  rcases h.2 with ⟨⟨a, c, rfl⟩, rfl⟩ | ⟨blk, off, cap, rfl, _⟩
  · exact ⟨a, c, rfl⟩
  · exact ⟨_, _, rfl⟩
theorem old_set2 {L : Nat → Bool} {i i2 : Nat} {l l' : List Value} (u u2 : Value) (hL : L i = false) (hL2 : L i2 = false) (h : l' = (l.set i u).set i2 u2) : ∀ j, L j = true → l'.getD j undef = l.getD j undef := by
  intro j hj
  subst h
  have hn : i ≠ j := by rintro rfl; rw [hL] at hj; cases hj
  have hn2 : i2 ≠ j := by rintro rfl; rw [hL2] at hj; cases hj
  rw [List.getD_eq_getElem?_getD, List.getD_eq_getElem?_getD, List.getElem?_set_ne hn2, List.getElem?_set_ne hn]

set_option maxRecDepth 100000 in
set_option maxHeartbeats 4000000 in
theorem creads_yes (x : Cel) (v : Value) (zs : List Int) (w : World) (hx : CelOk x) (hv : BySl Nb w v zs) (hr : crightB x.1 = true) :
    Calls Try.prog 4 #[cv x, v] w fun e w' => e = .returned (.bool true) ∧ Kp Nb w w' := by
  obtain ⟨y, d, rfl⟩ := hv.sizeLe
  have HV := hid hv
  have HX := hid hx
  obtain ⟨ws, hws⟩ : ∃ ws, ws = cellBytes x.1 x.2.1 x.2.2 := ⟨_, rfl⟩
  have WL : Hid (ws.length ≤ 140737488355328) := hid (by rw [hws]; have := numBytes_length (zigI x.1) (x64_rng _ _).2; have := hx.mark.len; simp only [cellBytes, List.length_append, eightL, eightK_length]; omega)
  have CP : Hid (∀ (P : Nat) (w : World), PenAt w P (.slice none 0 0) [] → Calls Try.prog 21 #[.pointer (some ⟨P, 0, none⟩), cv x] w fun e w' => e = .returned (.bool true) ∧ ∃ v', PenAt w' P v' ws ∧ PenTo w w' P (.slice none 0 0) v') := hid (fun P w hp => by
    have h := cput_any P (.slice none 0 0) [] x.1 x.2.1 x.2.2 w hp hx.mark hr (by decide); rw [List.nil_append, ← hws] at h; exact h)
  have CR : Hid (∀ w, Calls Try.prog 20 #[cv x] w fun e w' => e = .returned (.bool true) ∧ Kp Nb w w') := hid (fun w => by rw [← hr]; exact rright_any x w)
  have CB : Hid (∀ w, Calls Try.prog 22 #[cv x] w fun e w' => e = .returned (.string (st ws)) ∧ Kp Nb w w') := hid (fun w => by rw [hws]; exact rbytes_any x w hx)
  have hb := hv.1
  obtain ⟨sz, hsz⟩ : ∃ s, st zs = s := ⟨_, rfl⟩
  have HSZ := hid hsz
  clear hx hv hr hws hsz
  obtain ⟨du, hu, hd⟩ := cell_under
  have HU := hid hu
  have CI := hid (cell_infoL x.1 x.2.1 x.2.2 HX.out.mark.len)
  have D0 := hid (Blk.new w 26 (cl x))
  have KD := hid ((Kp.refl Nb w).alloc (.cells (cl x).toArray 26))
  have HB := hid hb
  clear hu hb
  go_enter Try.func4, Try.ntmps4
  go_wp2_with fail
  refine (cfirst_any _).mono ?_
  rintro e w1 ⟨rfl, k1⟩
  have D1 := hid (D0.out.kept k1 (fun h => h))
  have K1 := hid (KD.out.trans k1 (fun _ _ h => h))
  clear D0 KD k1
  by_cases hl : 500 < zs.length
  · have d1 : decide (500 < (zs.length : Int)) = true := decide_eq_true (by omega)
    go_wp2
    go_ret
    exact ⟨rfl, K1.out⟩
  have d1 : decide (500 < (zs.length : Int)) = false := decide_eq_false (by omega)
  have HL := hid (Nat.not_lt.1 hl)
  clear hl
  obtain ⟨D, hD⟩ : ∃ D, w.heap.size = D := ⟨_, rfl⟩
  rw [hD] at D1 ⊢
  have HD := hid hD
  have P2 := hid (pen_new w1)
  have D2 := hid (D1.out.alloc (.cells #[.slice none 0 0] 43))
  have K2 := hid (K1.out.alloc (.cells #[.slice none 0 0] 43))
  have LP : Hid (w.heap.size ≤ w1.heap.size) := hid K1.out.size
  have DP : Hid (D ≠ w1.heap.size) := hid (by have := D1.out.lt; omega)
  clear D1 K1 hD
  go_wp2_with (refine wpList_load_mid (by rfl) 26 (.tmp 2) (by rfl) D 0 (by rfl) (cl x) du (range_of D2.out) HU.out hd CI.out ?_)
  generalize w1.heap.size = P at *
  refine (CP.out P _ P2.out).mono ?_
  rintro e w3 ⟨rfl, v', p3, t3⟩
  have D3 := hid (D2.out.kept t3.kp (pb_none DP.out))
  have K3 := hid (K2.out.trans t3.kp (fun i hi h => by
    rcases h with h | h
    · have := LP.out; omega
    · cases h))
  have P3 := hid p3
  have OW3 : Hid (∀ g, v'.ownBlock = some g → w.heap.size ≤ g) := hid (fun g hg => by
    have h1 := penTo_own t3 rfl g hg
    have := K2.out.size
    omega)
  clear P2 D2 K2 p3 t3
  go_wp2_with (refine wpList_load_mid (by rfl) 26 (.tmp 2) (by rfl) D 0 (by rfl) (cl x) du (range_of D3.out) HU.out hd CI.out ?_)
  refine (CR.out _).mono ?_
  rintro e w4 ⟨rfl, k4⟩
  have D4 := hid (D3.out.kept k4 (fun h => h))
  have K4 := hid (K3.out.trans k4 (fun _ _ h => h))
  have P4 := hid (P3.out.kept k4 (fun h => h) (fun _ _ h => h))
  clear D3 K3 P3 k4
  go_wp2_with (refine wpList_load_mid (by rfl) 26 (.tmp 2) (by rfl) D 0 (by rfl) (cl x) du (range_of D4.out) HU.out hd CI.out ?_)
  refine (CB.out _).mono ?_
  rintro e w5 ⟨rfl, k5⟩
  have D5 := hid (D4.out.kept k5 (fun h => h))
  have K5 := hid (K4.out.trans k5 (fun _ _ h => h))
  have P5 := hid (P4.out.kept k5 (fun h => h) (fun _ _ h => h))
  clear D4 K4 P4 k5
  obtain ⟨s7, hs7⟩ : ∃ s, st ws = s := ⟨_, rfl⟩
  rw [hs7]
  have HS7 := hid hs7
  clear hs7
  have HV5 := hid (HV.out.kept K5.out (fun _ h => h))
  have CV := hid (fun W (k : Kp Nb w5 W) => conv_any (HV5.out.kept k (fun _ h => h)))
  rw [HSZ.out] at CV
  go_upto_region 9 with fail
  refine region_ghost (g0 := ((0, 0) : Nat × Nat)) [none, none, none, none, none, none, none, none, some 6, some 7, none, none, none, none, none, none, none, none, none, none, none, none, none, none, none, none, some 0, some 1, some 2, some 3, some 4, some 5, none, none, none, none, none, none, none, none, none, none, none, none, none, none, none, none, none, none, none, none, none, none, none, none, none, none, none, none, none, none, none, none, none, none, none, none, none, none, none] [[(1, none)], [(26, some 0)], [(1, none)], [(28, some 2)], [(29, some 3)], [(30, some 4)], [(27, some 1)], [(31, some 5)]] [some 26, some 27, some 28, some 29, some 30, some 31, some 8, some 9] (fun g => [.slice y zs.length d, .pointer (some ⟨g.1, 0, none⟩), .slice y zs.length d, .string sz, .agg #[.string sz, .int .i64 0], .pointer (some ⟨g.2, 0, none⟩), .pointer (some ⟨g.1, 0, none⟩), .pointer (some ⟨g.2, 0, none⟩)]) [1, 5] (RdS w5 zs) (by kernel_rfl) (by kernel_rfl) (fun g => by kernel_rfl) (by kernel_rfl) ?hS (GFrom.all (n := 8) (by kernel_rfl) ?hstep) ?hend
  case hstep =>
    refine GFrom.cons (GStep.val _ rfl rfl _ rfl (fun g => .slice y zs.length d) (fun _ => rfl) (fun _ => trivial) (fun bs g ev wq hS he hr => ?_)) ?_
    · have r0 : ev (.tmp 1) = .slice y zs.length d := hr (1, none) (by simp); have hk := he.1; clear hr he
      go_simp
    refine GFrom.cons (GStep.callm _ rfl _ rfl (fun _ => trivial) 23 (fun g => #[.slice y zs.length d]) (fun bs g ev wq hS he hr => ?_) (fun L g wq hL hd hcl hS => ?_)) ?_
    · have r0 : ev (.tmp 26) = .slice y zs.length d := hr (26, some 0) (by simp); have hk := he.1; have hf := he.2; clear hr he
      go_simp
    · refine (read_any (S := Nb) _ zs wq (HV5.out.kept hS.kp (fun _ h => h)) (by have := HL.out; omega)).mono ?_
      rintro e w' ⟨Bq, hB, rfl, hey, kn⟩
      have l6 : L 6 = false := by
        cases h : L 6 with
        | false => rfl
        | true => have := hcl 6 _ rfl h 1 (by kernel_rfl); rw [hL] at this; cases this
      refine ⟨_, (Bq, g.2), rfl, rfl, old_set2 (.pointer (some ⟨Bq, 0, none⟩)) (.pointer (some ⟨Bq, 0, none⟩)) hL l6 rfl, ?_⟩
      refine ⟨hS.kp.trans kn (fun _ _ h => h), fun _ => ⟨hey, Nat.le_trans hS.kp.size hB⟩, fun e1 => ?_, fun _ e2 => ?_⟩
      · have a := hS.ref (by simpa [bitsAt, upd] using e1)
        exact ⟨a.1.kept kn (fun h => h), a.2⟩
      · have a := hS.ref (by simpa [bitsAt, upd] using e2)
        have := Blk.lt a.1
        show Bq ≠ g.2
        omega
    refine GFrom.cons (GStep.val _ rfl rfl _ rfl (fun g => .slice y zs.length d) (fun _ => rfl) (fun _ => trivial) (fun bs g ev wq hS he hr => ?_)) ?_
    · have r0 : ev (.tmp 1) = .slice y zs.length d := hr (1, none) (by simp); have hk := he.1; clear hr he
      go_simp
    refine GFrom.cons (GStep.val _ rfl rfl _ rfl (fun g => .string sz) (fun _ => rfl) (fun _ => trivial) (fun bs g ev wq hS he hr => ?_)) ?_
    · have r0 : ev (.tmp 28) = .slice y zs.length d := hr (28, some 2) (by simp); have hk := he.1; clear hr he
      have e1 := CV.out wq hS.kp
      go_simp
    refine GFrom.cons (GStep.val _ rfl rfl _ rfl (fun g => .agg #[.string sz, .int .i64 0]) (fun _ => rfl) (fun _ => trivial) (fun bs g ev wq hS he hr => ?_)) ?_
    · have r0 : ev (.tmp 29) = .string sz := hr (29, some 3) (by simp); have hk := he.1; clear hr he
      go_simp
    refine GFrom.cons (GStep.make _ rfl _ rfl (fun _ => trivial) (fun L g ev wq hL hd hcl hS he hr => ?_)) ?_
    · have r0 : ev (.tmp 30) = .agg #[.string sz, .int .i64 0] := hr (30, some 4) (by simp); clear hr he
      have l7 : L 7 = false := by
        cases h : L 7 with
        | false => rfl
        | true => have := hcl 7 _ rfl h 5 (by kernel_rfl); rw [hL] at this; cases this
      refine ⟨.pointer (some ⟨wq.heap.size, 0, none⟩), (g.1, wq.heap.size), wq.alloc (.cells #[.string sz, .int .i64 0] 50), by go_simp, rfl, old_set2 (.pointer (some ⟨wq.heap.size, 0, none⟩)) (.pointer (some ⟨wq.heap.size, 0, none⟩)) hL l7 rfl, ?_⟩
      have kn := (Kp.refl Nb wq).alloc (.cells #[.string sz, .int .i64 0] 50)
      refine ⟨hS.kp.trans kn (fun _ _ h => h), fun e1 => ?_, fun _ => ⟨?_, hS.kp.size⟩, fun e1 _ => ?_⟩
      · have a := hS.eye (by simpa [bitsAt, upd] using e1)
        exact ⟨a.1.kept kn (fun _ _ h => h), a.2⟩
      · have hb := Blk.new wq 50 [.string sz, .int .i64 0]
        show Blk _ _ _ [.string (st zs), .int .i64 0]
        rw [HSZ.out]
        exact hb
      · have a := hS.eye (by simpa [bitsAt, upd] using e1)
        have := a.1.lt
        show g.1 ≠ wq.heap.size
        omega
    refine GFrom.cons (GStep.val _ rfl rfl _ rfl (fun g => .pointer (some ⟨g.1, 0, none⟩)) (fun _ => rfl) (fun _ => trivial) (fun bs g ev wq hS he hr => ?_)) ?_
    · have r0 : ev (.tmp 27) = .pointer (some ⟨g.1, 0, none⟩) := hr (27, some 1) (by simp); have hk := he.1; clear hr he
      go_simp
    refine GFrom.cons (GStep.val _ rfl rfl _ rfl (fun g => .pointer (some ⟨g.2, 0, none⟩)) (fun _ => rfl) (fun _ => trivial) (fun bs g ev wq hS he hr => ?_)) ?_
    · have r0 : ev (.tmp 31) = .pointer (some ⟨g.2, 0, none⟩) := hr (31, some 5) (by simp); have hk := he.1; clear hr he
      go_simp
    exact GFrom.nil
  case hS => exact ⟨(Kp.refl Nb w5).drew, fun h => by simp at h, fun h => by simp at h, fun h => by simp at h⟩
  case hend =>
    intro g w6 h6
    obtain ⟨E, X⟩ := g
    have a1 := h6.eye (by simp)
    have a2 := h6.ref (by simp)
    have NE := hid (h6.ne (by simp) (by simp))
    dsimp only at a1 a2 NE
    have k6 := h6.kp
    have E6 := hid a1.1
    have X6 := hid a2.1
    have LE : Hid (w5.heap.size ≤ E) := hid a1.2
    have LX : Hid (w5.heap.size ≤ X) := hid a2.2
    have D6 := hid (D5.out.kept k6 (fun h => h))
    have P6 := hid (P5.out.kept k6 (fun h => h) (fun _ _ h => h))
    have K6 := hid (K5.out.trans k6 (fun _ _ h => h))
    have ZL : Hid (zs.length ≤ 140737488355328) := hid (by have := HL.out; omega)
    have L5 := hid D5.out.lt
    have LP5 := hid P5.out.lt
    have LV5 : Hid (∀ g, v'.ownBlock = some g → g < w5.heap.size) := hid (fun g hg => (P5.out.own.lt g hg).2)
    clear h6 a1 a2 k6 D5 P5 K5 HV5 CV
    obtain ⟨R, hR⟩ : ∃ R, getC zs = R := ⟨_, rfl⟩
    have RL : Hid (R.1.2.1.length = 16) := hid (by rw [← hR]; exact getC_len zs)
    have CG : Hid (∀ w, EyeAt w E zs 0 → Calls Try.prog 24 #[.pointer (some ⟨E, 0, none⟩)] w (GetPost w E R)) := hid (fun w h => by rw [← hR]; exact cget_any E zs w h ZL.out)
    have CRG : Hid (∀ w, RefAt w X zs 0 → Calls Try.prog 25 #[.pointer (some ⟨X, 0, none⟩)] w (RgetP w X R)) := hid (fun w h => by rw [← hR]; exact rget_any X zs w h HB.out)
    obtain ⟨rc, z3, e3⟩ := R
    clear hR
    simp only [putAll, List.zip_cons_cons, List.zip_nil_right, List.foldl_cons, List.foldl_nil, Act.put, List.setIfInBounds_toArray, List.set_cons_zero, List.set_cons_succ]
    go_wp2_with fail
    refine (CG.out _ E6.out).mono ?_
    rintro e w7 ⟨rfl, e7, k7⟩
    have E7 := hid e7
    have X7 := hid (X6.out.kept k7 (fun h => NE.out (Eq.symm h)))
    have D7 := hid (D6.out.kept k7 (fun h => by have h' : D = E := h; have := L5.out; have := LE.out; omega))
    have P7 := hid (P6.out.kept k7 (fun h => by have h' : P = E := h; have := LP5.out; have := LE.out; omega) (fun g hg h => by have h' : g = E := h; have := LV5.out g hg; have := LE.out; omega))
    have LW : Hid (w.heap.size ≤ w5.heap.size) := hid (by have := L5.out; have := HD.out; omega)
    have K7 := hid (K6.out.trans k7 (fun i hi h => by have h' : i = E := h; have := LE.out; have := LW.out; omega))
    clear E6 X6 D6 P6 K6 e7 k7
    dsimp only at E7 RL
    go_wp2_with fail
    refine (CRG.out _ X7.out).mono ?_
    rintro e w8 ⟨rfl, x8, k8⟩
    dsimp only at x8
    have X8 := hid x8
    have E8 := hid (E7.out.beside X7.out NE.out k8)
    have D8 := hid (D7.out.kept k8 (fun h => by have h' : D = X := h; have := L5.out; have := LX.out; omega))
    have P8 := hid (P7.out.kept k8 (fun h => by have h' : P = X := h; have := LP5.out; have := LX.out; omega) (fun g hg h => by have h' : g = X := h; have := LV5.out g hg; have := LX.out; omega))
    have K8 := hid (K7.out.trans k8 (fun i hi h => by have h' : i = X := h; have := LX.out; have := LW.out; omega))
    clear E7 X7 D7 P7 K7 x8 k8
    -- the two variables
    obtain ⟨N, hN⟩ : ∃ N, w8.heap.size = N := ⟨_, rfl⟩
    obtain ⟨wA, hwA⟩ : ∃ W, W = (w8.alloc (.cells (cl c0).toArray 26)).alloc (.cells (cl c0).toArray 26) := ⟨_, rfl⟩
    have A0 : Blk wA N 26 (cl c0) := by rw [hwA, ← hN]; exact (Blk.new w8 _ _).alloc _
    have A1 : Blk wA (N + 1) 26 (cl c0) := by
      have h := Blk.new (w8.alloc (.cells (cl c0).toArray 26)) 26 (cl c0)
      simp only [World.size_alloc] at h
      rw [hwA, ← hN]
      exact h
    have kA : Kp Nb w8 wA := by rw [hwA]; exact ((Kp.refl Nb w8).alloc _).alloc _
    obtain ⟨wB, hwB⟩ : ∃ W, W = wA.setCells N 0 (cl rc) := ⟨_, rfl⟩
    have B0 : Blk wB N 26 (cl rc) := by rw [hwB]; exact row_set A0 (by rw [cellL_length _ _ _ RL.out]; rfl)
    have kB : Kp (Jb N) wA wB := by rw [hwB]; exact Kp.setCells (S := Jb N) (fun _ => show N = N from rfl) _ 0 _ (Kp.refl _ wA)
    have B1 : Blk wB (N + 1) 26 (cl c0) := A1.kept kB (fun h => by have h' : N + 1 = N := h; omega)
    obtain ⟨wC, hwC⟩ : ∃ W, W = wB.setCells (N + 1) 0 (cl rc) := ⟨_, rfl⟩
    have C1 : Hid (Blk wC (N + 1) 26 (cl rc)) := hid (by rw [hwC]; exact row_set B1 (by rw [cellL_length _ _ _ RL.out]; rfl))
    have kC : Kp (Jb (N + 1)) wB wC := by rw [hwC]; exact Kp.setCells (S := Jb (N + 1)) (fun _ => show N + 1 = N + 1 from rfl) _ 0 _ (Kp.refl _ wB)
    have C0 : Hid (Blk wC N 26 (cl rc)) := hid (B0.kept kC (fun h => by have h' : N = N + 1 := h; omega))
    have kk : Kp Nb w8 wC := (kA.trans kB (S := Nb) (fun i hi h => by have h' : i = N := h; omega)).trans kC (fun i hi h => by have h' : i = N + 1 := h; omega)
    have T0 : Hid (wA.there N 0 (cl rc).toArray.size) := hid (cl_there A0 (cl_length c0_ok) RL.out)
    have T1 : Hid (wB.there (N + 1) 0 (cl rc).toArray.size) := hid (cl_there B1 (cl_length c0_ok) RL.out)
    have SI := hid (cl_sized (c := rc.1) (k := rc.2.2) RL.out)
    have ON := hid (all_oneCell_toArray (cellL_one rc.1 rc.2.1 rc.2.2))
    have XC := hid (X8.out.kept kk (fun h => h))
    have EC := hid (E8.out.kept kk (fun _ _ h => h))
    have DC := hid (D8.out.kept kk (fun h => h))
    have PC := hid (P8.out.kept kk (fun h => h) (fun _ _ h => h))
    have KC := hid (K8.out.trans kk (fun _ _ h => h))
    have HwA := hid hwA
    have HwB := hid hwB
    have HwC := hid hwC
    have HN := hid hN
    clear A0 A1 kA B0 kB B1 kC kk X8 E8 D8 P8 K8 hwA hwB hwC hN
    go_upto_region 11 with (first
      | (rw [show (w8.alloc (.cells #[.int .i64 0, .int .u8 0, .int .u8 0, .int .u8 0, .int .u8 0, .int .u8 0, .int .u8 0, .int .u8 0, .int .u8 0, .int .u8 0, .int .u8 0, .int .u8 0, .int .u8 0, .int .u8 0, .int .u8 0, .int .u8 0, .int .u8 0, .int .u64 0] 26)).alloc (.cells #[.int .i64 0, .int .u8 0, .int .u8 0, .int .u8 0, .int .u8 0, .int .u8 0, .int .u8 0, .int .u8 0, .int .u8 0, .int .u8 0, .int .u8 0, .int .u8 0, .int .u8 0, .int .u8 0, .int .u8 0, .int .u8 0, .int .u8 0, .int .u64 0] 26) = wA from HwA.out.symm, HN.out]; refine wpList_store_mid (by rfl) 26 (.tmp 10) (.tmp 33) (by rfl) N 0 (cl rc).toArray (by rfl) (by rfl) T0.out SI.out ON.out ?_)
      | (rw [show wA.setCells N 0 (cl rc).toArray.toList = wB from HwB.out.symm]; refine wpList_store_mid (by rfl) 26 (.tmp 11) (.tmp 35) (by rfl) (N + 1) 0 (cl rc).toArray (by rfl) (by rfl) T1.out SI.out ON.out ?_))
    rw [show wB.setCells (N + 1) 0 (cl rc) = wC from HwC.out.symm]
    simp only [Act.put]
    clear HwA HwB HwC HN T0 T1 SI ON CG CRG CP HV HL L5 LP5 LV5 LE LX LW LP DP d1 OW3 ZL
    have S3 := hid (st_size z3)
    obtain ⟨s3, hs3⟩ : ∃ s, st z3 = s := ⟨_, rfl⟩
    have X3 : Hid (Blk wC X 50 [.string s3, .int .i64 e3]) := hid (by rw [← hs3]; exact XC.out)
    rw [hs3] at S3
    have EQ := hid (eq_cellm rc RL.out)
    have CPB : Hid (∀ wq, PenAt wq P v' ws → Calls Try.prog 26 #[.pointer (some ⟨P, 0, none⟩)] wq fun e w' => ∃ r, e = .returned r ∧ BySl Nb w' r ws ∧ Kp Nb wq w') := hid (fun wq hp => (pen_bytes P v' ws wq hp WL.out).mono fun e w' ⟨r, h1, ow, kn⟩ => ⟨r, h1, BySl.ofOwn (S := Nb) ow hp.bytes (fun _ _ _ h => h), kn⟩)
    clear hs3 XC
    refine region_ghost (g0 := (undef : Value)) [none, none, none, none, some 35, none, none, none, none, none, none, none, none, none, none, none, none, none, none, none, none, none, none, none, none, none, none, none, none, none, none, none, none, none, none, none, some 0, some 1, some 2, some 3, some 4, some 5, some 6, some 7, some 8, some 9, some 10, some 11, some 12, some 13, some 14, some 15, some 16, some 17, some 18, some 19, some 20, some 21, some 22, some 23, some 24, some 25, some 26, some 27, some 28, some 29, some 30, some 31, some 32, some 33, some 34] [[(6, none)], [(2, none)], [(37, some 1)], [(36, some 0), (38, some 2)], [(39, some 3)], [(5, none)], [(41, some 5)], [(42, some 6)], [(7, none)], [(43, some 7), (44, some 8)], [(40, some 4), (45, some 9)], [(46, some 10)], [(10, none)], [(11, none)], [(48, some 12), (49, some 13)], [(47, some 11), (50, some 14)], [(51, some 15)], [(8, none)], [(53, some 17)], [(9, none)], [(55, some 19)], [(56, some 20)], [(57, some 21)], [(54, some 18), (58, some 22)], [(52, some 16), (59, some 23)], [(60, some 24)], [(8, none)], [(62, some 26)], [(9, none)], [(64, some 28)], [(65, some 29)], [(66, some 30)], [(67, some 31)], [(63, some 27), (68, some 32)], [(61, some 25), (69, some 33)], [(70, some 34)]] [some 36, some 37, some 38, some 39, some 40, some 41, some 42, some 43, some 44, some 45, some 46, some 47, some 48, some 49, some 50, some 51, some 52, some 53, some 54, some 55, some 56, some 57, some 58, some 59, some 60, some 61, some 62, some 63, some 64, some 65, some 66, some 67, some 68, some 69, some 70, some 4] (fun g => [.bool true, cv x, .bool true, .bool true, .bool true, .pointer (some ⟨P, 0, none⟩), g, .string s7, .string s7, .bool true, .bool true, .bool true, cv rc, cv rc, .bool true, .bool true, .bool true, .pointer (some ⟨E, 0, none⟩), .int .i64 e3, .pointer (some ⟨X, 0, none⟩), .pointer (some ⟨X, 0, none⟩), .pointer (some ⟨X, 1, none⟩), .int .i64 e3, .bool true, .bool true, .bool true, .pointer (some ⟨E, 0, none⟩), .int .i64 (z3.length : Int), .pointer (some ⟨X, 0, none⟩), .pointer (some ⟨X, 0, none⟩), .pointer (some ⟨X, 0, none⟩), .string s3, .int .i64 (z3.length : Int), .bool true, .bool true, .bool true]) [6] (RfS wC ws) (by kernel_rfl) (by kernel_rfl) (fun g => by kernel_rfl) (by kernel_rfl) ?hS (GFrom.all (n := 36) (by kernel_rfl) ?hstep) ?hend
    case hstep =>
      refine GFrom.cons (GStep.val _ rfl rfl _ rfl (fun g => .bool true) (fun _ => rfl) (fun _ => trivial) (fun bs g ev wq hS he hr => ?_)) ?_
      · have r0 : ev (.tmp 6) = .bool true := hr (6, none) (by simp); have hk := he.1; clear hr he
        go_simp
      refine GFrom.cons (GStep.val _ rfl rfl _ rfl (fun g => cv x) (fun _ => rfl) (fun _ => trivial) (fun bs g ev wq hS he hr => ?_)) ?_
      · have r0 : ev (.tmp 2) = .pointer (some ⟨D, 0, none⟩) := hr (2, none) (by simp); have hk := he.1; clear hr he
        exact exec_load rfl r0 (load_cellm HX.out.mark.len (DC.out.kept hS.kp (fun h => h)))
      refine GFrom.cons (GStep.call _ rfl rfl _ rfl (fun g => .bool true) (fun _ => rfl) (fun _ => trivial) 20 (fun g => #[cv x]) (fun bs g ev wq hS he hr => ?_) (fun L g wq hd hL hS => ?_)) ?_
      · have r0 : ev (.tmp 37) = cv x := hr (37, some 1) (by simp); have hk := he.1; have hf := he.2; clear hr he
        go_simp
      · exact (CR.out wq).mono fun e w' ⟨h1, h2⟩ => ⟨h1, hS.keptN h2⟩
      refine GFrom.cons (GStep.val _ rfl rfl _ rfl (fun g => .bool true) (fun _ => rfl) (fun _ => trivial) (fun bs g ev wq hS he hr => ?_)) ?_
      · have r0 : ev (.tmp 36) = .bool true := hr (36, some 0) (by simp); have r1 : ev (.tmp 38) = .bool true := hr (38, some 2) (by simp); have hk := he.1; clear hr he
        go_simp
      refine GFrom.cons (GStep.val _ rfl rfl _ rfl (fun g => .bool true) (fun _ => rfl) (fun _ => trivial) (fun bs g ev wq hS he hr => ?_)) ?_
      · have r0 : ev (.tmp 39) = .bool true := hr (39, some 3) (by simp); have hk := he.1; clear hr he
        go_simp
      refine GFrom.cons (GStep.val _ rfl rfl _ rfl (fun g => .pointer (some ⟨P, 0, none⟩)) (fun _ => rfl) (fun _ => rfl) (fun bs g ev wq hS he hr => ?_)) ?_
      · have r0 : ev (.tmp 5) = .pointer (some ⟨P, 0, none⟩) := hr (5, none) (by simp); have hk := he.1; clear hr he
        go_simp
      refine GFrom.cons (GStep.callm _ rfl _ rfl (fun _ => rfl) 26 (fun g => #[.pointer (some ⟨P, 0, none⟩)]) (fun bs g ev wq hS he hr => ?_) (fun L g wq hL hd hcl hS => ?_)) ?_
      · have r0 : ev (.tmp 41) = .pointer (some ⟨P, 0, none⟩) := hr (41, some 5) (by simp); have hk := he.1; have hf := he.2; clear hr he
        go_simp
      · refine (CPB.out wq (PC.out.kept hS.kp (fun h => h) (fun _ _ h => h))).mono ?_
        rintro e w' ⟨r, rfl, hb, kn⟩
        exact ⟨r, r, rfl, rfl, old_set r hL rfl, (hS.keptN kn).kp, fun _ => hb⟩
      refine GFrom.cons (GStep.make _ rfl _ rfl (fun _ => rfl) (fun L g ev wq hL hd hcl hS he hr => ?_)) ?_
      · have r0 : ev (.tmp 42) = g := hr (42, some 6) (by simp); clear hr he
        have e1 := conv_any (hS.by' (by simp [bitsAt, hd 6 (by kernel_rfl)]))
        rw [HS7.out] at e1
        refine ⟨.string s7, g, wq, by go_simp, rfl, fun _ _ => rfl, ?_⟩
        rw [bitsAt_upd (by rfl)]
        exact hS
      refine GFrom.cons (GStep.val _ rfl rfl _ rfl (fun g => .string s7) (fun _ => rfl) (fun _ => rfl) (fun bs g ev wq hS he hr => ?_)) ?_
      · have r0 : ev (.tmp 7) = .string s7 := hr (7, none) (by simp); have hk := he.1; clear hr he
        go_simp
      refine GFrom.cons (GStep.val _ rfl rfl _ rfl (fun g => .bool true) (fun _ => rfl) (fun _ => rfl) (fun bs g ev wq hS he hr => ?_)) ?_
      · have r0 : ev (.tmp 43) = .string s7 := hr (43, some 7) (by simp); have r1 : ev (.tmp 44) = .string s7 := hr (44, some 8) (by simp); have hk := he.1; clear hr he
        go_simp
      refine GFrom.cons (GStep.val _ rfl rfl _ rfl (fun g => .bool true) (fun _ => rfl) (fun _ => trivial) (fun bs g ev wq hS he hr => ?_)) ?_
      · have r0 : ev (.tmp 40) = .bool true := hr (40, some 4) (by simp); have r1 : ev (.tmp 45) = .bool true := hr (45, some 9) (by simp); have hk := he.1; clear hr he
        go_simp
      refine GFrom.cons (GStep.val _ rfl rfl _ rfl (fun g => .bool true) (fun _ => rfl) (fun _ => trivial) (fun bs g ev wq hS he hr => ?_)) ?_
      · have r0 : ev (.tmp 46) = .bool true := hr (46, some 10) (by simp); have hk := he.1; clear hr he
        go_simp
      refine GFrom.cons (GStep.val _ rfl rfl _ rfl (fun g => cv rc) (fun _ => rfl) (fun _ => rfl) (fun bs g ev wq hS he hr => ?_)) ?_
      · have r0 : ev (.tmp 10) = .pointer (some ⟨N, 0, none⟩) := hr (10, none) (by simp); have hk := he.1; clear hr he
        exact exec_load rfl r0 (load_cellm RL.out (C0.out.kept hS.kp (fun h => h)))
      refine GFrom.cons (GStep.val _ rfl rfl _ rfl (fun g => cv rc) (fun _ => rfl) (fun _ => rfl) (fun bs g ev wq hS he hr => ?_)) ?_
      · have r0 : ev (.tmp 11) = .pointer (some ⟨(N + 1), 0, none⟩) := hr (11, none) (by simp); have hk := he.1; clear hr he
        exact exec_load rfl r0 (load_cellm RL.out (C1.out.kept hS.kp (fun h => h)))
      refine GFrom.cons (GStep.val _ rfl rfl _ rfl (fun g => .bool true) (fun _ => rfl) (fun _ => rfl) (fun bs g ev wq hS he hr => ?_)) ?_
      · have r0 : ev (.tmp 48) = cv rc := hr (48, some 12) (by simp); have r1 : ev (.tmp 49) = cv rc := hr (49, some 13) (by simp); have hk := he.1; clear hr he
        exact exec_eqlCell rfl r0 r1 (EQ.out wq)
      refine GFrom.cons (GStep.val _ rfl rfl _ rfl (fun g => .bool true) (fun _ => rfl) (fun _ => trivial) (fun bs g ev wq hS he hr => ?_)) ?_
      · have r0 : ev (.tmp 47) = .bool true := hr (47, some 11) (by simp); have r1 : ev (.tmp 50) = .bool true := hr (50, some 14) (by simp); have hk := he.1; clear hr he
        go_simp
      refine GFrom.cons (GStep.val _ rfl rfl _ rfl (fun g => .bool true) (fun _ => rfl) (fun _ => trivial) (fun bs g ev wq hS he hr => ?_)) ?_
      · have r0 : ev (.tmp 51) = .bool true := hr (51, some 15) (by simp); have hk := he.1; clear hr he
        go_simp
      refine GFrom.cons (GStep.val _ rfl rfl _ rfl (fun g => .pointer (some ⟨E, 0, none⟩)) (fun _ => rfl) (fun _ => rfl) (fun bs g ev wq hS he hr => ?_)) ?_
      · have r0 : ev (.tmp 8) = .pointer (some ⟨E, 0, none⟩) := hr (8, none) (by simp); have hk := he.1; clear hr he
        go_simp
      refine GFrom.cons (GStep.call _ rfl rfl _ rfl (fun g => .int .i64 e3) (fun _ => rfl) (fun _ => rfl) 27 (fun g => #[.pointer (some ⟨E, 0, none⟩)]) (fun bs g ev wq hS he hr => ?_) (fun L g wq hd hL hS => ?_)) ?_
      · have r0 : ev (.tmp 53) = .pointer (some ⟨E, 0, none⟩) := hr (53, some 17) (by simp); have hk := he.1; have hf := he.2; clear hr he
        go_simp
      · exact (err_any E z3 e3 wq (EC.out.kept hS.kp (fun _ _ h => h))).mono fun e w' ⟨h1, h2⟩ => ⟨h1, by rw [← h2]; exact hS⟩
      refine GFrom.cons (GStep.val _ rfl rfl _ rfl (fun g => .pointer (some ⟨X, 0, none⟩)) (fun _ => rfl) (fun _ => rfl) (fun bs g ev wq hS he hr => ?_)) ?_
      · have r0 : ev (.tmp 9) = .pointer (some ⟨X, 0, none⟩) := hr (9, none) (by simp); have hk := he.1; clear hr he
        go_simp
      refine GFrom.cons (GStep.val _ rfl rfl _ rfl (fun g => .pointer (some ⟨X, 0, none⟩)) (fun _ => rfl) (fun _ => rfl) (fun bs g ev wq hS he hr => ?_)) ?_
      · have r0 : ev (.tmp 55) = .pointer (some ⟨X, 0, none⟩) := hr (55, some 19) (by simp); have hk := he.1; clear hr he
        go_simp
      refine GFrom.cons (GStep.val _ rfl rfl _ rfl (fun g => .pointer (some ⟨X, 1, none⟩)) (fun _ => rfl) (fun _ => rfl) (fun bs g ev wq hS he hr => ?_)) ?_
      · have r0 : ev (.tmp 56) = .pointer (some ⟨X, 0, none⟩) := hr (56, some 20) (by simp); have hk := he.1; clear hr he
        go_simp
      refine GFrom.cons (GStep.val _ rfl rfl _ rfl (fun g => .int .i64 e3) (fun _ => rfl) (fun _ => rfl) (fun bs g ev wq hS he hr => ?_)) ?_
      · have r0 : ev (.tmp 57) = .pointer (some ⟨X, 1, none⟩) := hr (57, some 21) (by simp); have hk := he.1; clear hr he
        have c0 := (X3.out.kept hS.kp (fun h => h)).cell 1
        go_simp
      refine GFrom.cons (GStep.val _ rfl rfl _ rfl (fun g => .bool true) (fun _ => rfl) (fun _ => rfl) (fun bs g ev wq hS he hr => ?_)) ?_
      · have r0 : ev (.tmp 54) = .int .i64 e3 := hr (54, some 18) (by simp); have r1 : ev (.tmp 58) = .int .i64 e3 := hr (58, some 22) (by simp); have hk := he.1; clear hr he
        go_simp
      refine GFrom.cons (GStep.val _ rfl rfl _ rfl (fun g => .bool true) (fun _ => rfl) (fun _ => trivial) (fun bs g ev wq hS he hr => ?_)) ?_
      · have r0 : ev (.tmp 52) = .bool true := hr (52, some 16) (by simp); have r1 : ev (.tmp 59) = .bool true := hr (59, some 23) (by simp); have hk := he.1; clear hr he
        go_simp
      refine GFrom.cons (GStep.val _ rfl rfl _ rfl (fun g => .bool true) (fun _ => rfl) (fun _ => trivial) (fun bs g ev wq hS he hr => ?_)) ?_
      · have r0 : ev (.tmp 60) = .bool true := hr (60, some 24) (by simp); have hk := he.1; clear hr he
        go_simp
      refine GFrom.cons (GStep.val _ rfl rfl _ rfl (fun g => .pointer (some ⟨E, 0, none⟩)) (fun _ => rfl) (fun _ => rfl) (fun bs g ev wq hS he hr => ?_)) ?_
      · have r0 : ev (.tmp 8) = .pointer (some ⟨E, 0, none⟩) := hr (8, none) (by simp); have hk := he.1; clear hr he
        go_simp
      refine GFrom.cons (GStep.call _ rfl rfl _ rfl (fun g => .int .i64 (z3.length : Int)) (fun _ => rfl) (fun _ => rfl) 28 (fun g => #[.pointer (some ⟨E, 0, none⟩)]) (fun bs g ev wq hS he hr => ?_) (fun L g wq hd hL hS => ?_)) ?_
      · have r0 : ev (.tmp 62) = .pointer (some ⟨E, 0, none⟩) := hr (62, some 26) (by simp); have hk := he.1; have hf := he.2; clear hr he
        go_simp
      · exact (left_any E z3 e3 wq (EC.out.kept hS.kp (fun _ _ h => h))).mono fun e w' ⟨h1, h2⟩ => ⟨h1, by rw [← h2]; exact hS⟩
      refine GFrom.cons (GStep.val _ rfl rfl _ rfl (fun g => .pointer (some ⟨X, 0, none⟩)) (fun _ => rfl) (fun _ => rfl) (fun bs g ev wq hS he hr => ?_)) ?_
      · have r0 : ev (.tmp 9) = .pointer (some ⟨X, 0, none⟩) := hr (9, none) (by simp); have hk := he.1; clear hr he
        go_simp
      refine GFrom.cons (GStep.val _ rfl rfl _ rfl (fun g => .pointer (some ⟨X, 0, none⟩)) (fun _ => rfl) (fun _ => rfl) (fun bs g ev wq hS he hr => ?_)) ?_
      · have r0 : ev (.tmp 64) = .pointer (some ⟨X, 0, none⟩) := hr (64, some 28) (by simp); have hk := he.1; clear hr he
        go_simp
      refine GFrom.cons (GStep.val _ rfl rfl _ rfl (fun g => .pointer (some ⟨X, 0, none⟩)) (fun _ => rfl) (fun _ => rfl) (fun bs g ev wq hS he hr => ?_)) ?_
      · have r0 : ev (.tmp 65) = .pointer (some ⟨X, 0, none⟩) := hr (65, some 29) (by simp); have hk := he.1; clear hr he
        go_simp
      refine GFrom.cons (GStep.val _ rfl rfl _ rfl (fun g => .string s3) (fun _ => rfl) (fun _ => rfl) (fun bs g ev wq hS he hr => ?_)) ?_
      · have r0 : ev (.tmp 66) = .pointer (some ⟨X, 0, none⟩) := hr (66, some 30) (by simp); have hk := he.1; clear hr he
        have c0 := (X3.out.kept hS.kp (fun h => h)).cell 0
        go_simp
      refine GFrom.cons (GStep.val _ rfl rfl _ rfl (fun g => .int .i64 (z3.length : Int)) (fun _ => rfl) (fun _ => rfl) (fun bs g ev wq hS he hr => ?_)) ?_
      · have r0 : ev (.tmp 67) = .string s3 := hr (67, some 31) (by simp); have hk := he.1; clear hr he
        have e1 := S3.out
        go_simp
      refine GFrom.cons (GStep.val _ rfl rfl _ rfl (fun g => .bool true) (fun _ => rfl) (fun _ => rfl) (fun bs g ev wq hS he hr => ?_)) ?_
      · have r0 : ev (.tmp 63) = .int .i64 (z3.length : Int) := hr (63, some 27) (by simp); have r1 : ev (.tmp 68) = .int .i64 (z3.length : Int) := hr (68, some 32) (by simp); have hk := he.1; clear hr he
        go_simp
      refine GFrom.cons (GStep.val _ rfl rfl _ rfl (fun g => .bool true) (fun _ => rfl) (fun _ => trivial) (fun bs g ev wq hS he hr => ?_)) ?_
      · have r0 : ev (.tmp 61) = .bool true := hr (61, some 25) (by simp); have r1 : ev (.tmp 69) = .bool true := hr (69, some 33) (by simp); have hk := he.1; clear hr he
        go_simp
      refine GFrom.cons (GStep.val _ rfl rfl _ rfl (fun g => .bool true) (fun _ => rfl) (fun _ => trivial) (fun bs g ev wq hS he hr => ?_)) ?_
      · have r0 : ev (.tmp 70) = .bool true := hr (70, some 34) (by simp); have hk := he.1; clear hr he
        go_simp
      exact GFrom.nil
    case hS => exact ⟨(Kp.refl Nb wC).drew, fun h => by simp at h⟩
    case hend =>
      intro g wy hy
      have K9 := hid (KC.out.trans hy.kp (fun _ _ h => h))
      clear hy
      simp only [putAll, List.zip_cons_cons, List.zip_nil_right, List.foldl_cons, List.foldl_nil, Act.put, List.setIfInBounds_toArray, List.set_cons_zero, List.set_cons_succ]
      go_wp2
      go_ret
      exact ⟨rfl, K9.out⟩


set_option maxRecDepth 100000 in
set_option maxHeartbeats 4000000 in
theorem creads_no (x : Cel) (v : Value) (zs : List Int) (w : World) (hx : CelOk x) (hv : BySl Nb w v zs) (hr : crightB x.1 = false) :
    Calls Try.prog 4 #[cv x, v] w fun e w' => e = .returned (.bool true) ∧ Kp Nb w w' := by
  obtain ⟨y, d, rfl⟩ := hv.sizeLe
  have HV := hid hv
  have HX := hid hx
  obtain ⟨ws, hws⟩ : ∃ ws, ws = ([] : List Int) := ⟨_, rfl⟩
  have WL : Hid (ws.length ≤ 140737488355328) := hid (by rw [hws]; decide)
  have CP : Hid (∀ (P : Nat) (w : World), PenAt w P (.slice none 0 0) [] → Calls Try.prog 21 #[.pointer (some ⟨P, 0, none⟩), cv x] w fun e w' => e = .returned (.bool false) ∧ ∃ v', PenAt w' P v' ws ∧ PenTo w w' P (.slice none 0 0) v') := hid (fun P w hp => by
    exact (cput_no P x w hx hr).mono fun e w' ⟨h1, h2⟩ => ⟨h1, .slice none 0 0, by rw [hws]; exact hp.kept h2 (fun h => h) (fun _ _ h => h), penTo_nb h2⟩)
  have CR : Hid (∀ w, Calls Try.prog 20 #[cv x] w fun e w' => e = .returned (.bool false) ∧ Kp Nb w w') := hid (fun w => by rw [← hr]; exact rright_any x w)
  skip
  have hb := hv.1
  obtain ⟨sz, hsz⟩ : ∃ s, st zs = s := ⟨_, rfl⟩
  have HSZ := hid hsz
  have HW := hid hws
  clear hx hv hr hws hsz
  obtain ⟨du, hu, hd⟩ := cell_under
  have HU := hid hu
  have CI := hid (cell_infoL x.1 x.2.1 x.2.2 HX.out.mark.len)
  have D0 := hid (Blk.new w 26 (cl x))
  have KD := hid ((Kp.refl Nb w).alloc (.cells (cl x).toArray 26))
  have HB := hid hb
  clear hu hb
  go_enter Try.func4, Try.ntmps4
  go_wp2_with fail
  refine (cfirst_any _).mono ?_
  rintro e w1 ⟨rfl, k1⟩
  have D1 := hid (D0.out.kept k1 (fun h => h))
  have K1 := hid (KD.out.trans k1 (fun _ _ h => h))
  clear D0 KD k1
  by_cases hl : 500 < zs.length
  · have d1 : decide (500 < (zs.length : Int)) = true := decide_eq_true (by omega)
    go_wp2
    go_ret
    exact ⟨rfl, K1.out⟩
  have d1 : decide (500 < (zs.length : Int)) = false := decide_eq_false (by omega)
  have HL := hid (Nat.not_lt.1 hl)
  clear hl
  obtain ⟨D, hD⟩ : ∃ D, w.heap.size = D := ⟨_, rfl⟩
  rw [hD] at D1 ⊢
  have HD := hid hD
  have P2 := hid (pen_new w1)
  have D2 := hid (D1.out.alloc (.cells #[.slice none 0 0] 43))
  have K2 := hid (K1.out.alloc (.cells #[.slice none 0 0] 43))
  have LP : Hid (w.heap.size ≤ w1.heap.size) := hid K1.out.size
  have DP : Hid (D ≠ w1.heap.size) := hid (by have := D1.out.lt; omega)
  clear D1 K1 hD
  go_wp2_with (refine wpList_load_mid (by rfl) 26 (.tmp 2) (by rfl) D 0 (by rfl) (cl x) du (range_of D2.out) HU.out hd CI.out ?_)
  generalize w1.heap.size = P at *
  refine (CP.out P _ P2.out).mono ?_
  rintro e w3 ⟨rfl, v', p3, t3⟩
  have D3 := hid (D2.out.kept t3.kp (pb_none DP.out))
  have K3 := hid (K2.out.trans t3.kp (fun i hi h => by
    rcases h with h | h
    · have := LP.out; omega
    · cases h))
  have P3 := hid p3
  have OW3 : Hid (∀ g, v'.ownBlock = some g → w.heap.size ≤ g) := hid (fun g hg => by
    have h1 := penTo_own t3 rfl g hg
    have := K2.out.size
    omega)
  clear P2 D2 K2 p3 t3
  go_wp2_with (refine wpList_load_mid (by rfl) 26 (.tmp 2) (by rfl) D 0 (by rfl) (cl x) du (range_of D3.out) HU.out hd CI.out ?_)
  refine (CR.out _).mono ?_
  rintro e w4 ⟨rfl, k4⟩
  have D4 := hid (D3.out.kept k4 (fun h => h))
  have K4 := hid (K3.out.trans k4 (fun _ _ h => h))
  have P4 := hid (P3.out.kept k4 (fun h => h) (fun _ _ h => h))
  clear D3 K3 P3 k4
  have HS7 : Hid (st ws = ⟨#[]⟩) := hid (by rw [HW.out]; rfl)
  obtain ⟨w5, h5⟩ : ∃ W, W = w4 := ⟨_, rfl⟩
  rw [← h5] at D4 K4 P4 ⊢
  have D5 := D4
  have K5 := K4
  have P5 := P4
  clear D4 K4 P4 h5
  have HV5 := hid (HV.out.kept K5.out (fun _ h => h))
  have CV := hid (fun W (k : Kp Nb w5 W) => conv_any (HV5.out.kept k (fun _ h => h)))
  rw [HSZ.out] at CV
  go_upto_region 9 with fail
  refine region_ghost (g0 := ((0, 0) : Nat × Nat)) [none, none, none, none, none, none, none, none, some 6, some 7, none, none, none, none, none, none, none, none, none, none, none, none, none, none, none, none, some 0, some 1, some 2, some 3, some 4, some 5, none, none, none, none, none, none, none, none, none, none, none, none, none, none, none, none, none, none, none, none, none, none, none, none, none, none, none, none, none, none, none, none, none, none, none, none, none, none, none] [[(1, none)], [(26, some 0)], [(1, none)], [(28, some 2)], [(29, some 3)], [(30, some 4)], [(27, some 1)], [(31, some 5)]] [some 26, some 27, some 28, some 29, some 30, some 31, some 8, some 9] (fun g => [.slice y zs.length d, .pointer (some ⟨g.1, 0, none⟩), .slice y zs.length d, .string sz, .agg #[.string sz, .int .i64 0], .pointer (some ⟨g.2, 0, none⟩), .pointer (some ⟨g.1, 0, none⟩), .pointer (some ⟨g.2, 0, none⟩)]) [1, 5] (RdS w5 zs) (by kernel_rfl) (by kernel_rfl) (fun g => by kernel_rfl) (by kernel_rfl) ?hS (GFrom.all (n := 8) (by kernel_rfl) ?hstep) ?hend
  case hstep =>
    refine GFrom.cons (GStep.val _ rfl rfl _ rfl (fun g => .slice y zs.length d) (fun _ => rfl) (fun _ => trivial) (fun bs g ev wq hS he hr => ?_)) ?_
    · have r0 : ev (.tmp 1) = .slice y zs.length d := hr (1, none) (by simp); have hk := he.1; clear hr he
      go_simp
    refine GFrom.cons (GStep.callm _ rfl _ rfl (fun _ => trivial) 23 (fun g => #[.slice y zs.length d]) (fun bs g ev wq hS he hr => ?_) (fun L g wq hL hd hcl hS => ?_)) ?_
    · have r0 : ev (.tmp 26) = .slice y zs.length d := hr (26, some 0) (by simp); have hk := he.1; have hf := he.2; clear hr he
      go_simp
    · refine (read_any (S := Nb) _ zs wq (HV5.out.kept hS.kp (fun _ h => h)) (by have := HL.out; omega)).mono ?_
      rintro e w' ⟨Bq, hB, rfl, hey, kn⟩
      have l6 : L 6 = false := by
        cases h : L 6 with
        | false => rfl
        | true => have := hcl 6 _ rfl h 1 (by kernel_rfl); rw [hL] at this; cases this
      refine ⟨_, (Bq, g.2), rfl, rfl, old_set2 (.pointer (some ⟨Bq, 0, none⟩)) (.pointer (some ⟨Bq, 0, none⟩)) hL l6 rfl, ?_⟩
      refine ⟨hS.kp.trans kn (fun _ _ h => h), fun _ => ⟨hey, Nat.le_trans hS.kp.size hB⟩, fun e1 => ?_, fun _ e2 => ?_⟩
      · have a := hS.ref (by simpa [bitsAt, upd] using e1)
        exact ⟨a.1.kept kn (fun h => h), a.2⟩
      · have a := hS.ref (by simpa [bitsAt, upd] using e2)
        have := Blk.lt a.1
        show Bq ≠ g.2
        omega
    refine GFrom.cons (GStep.val _ rfl rfl _ rfl (fun g => .slice y zs.length d) (fun _ => rfl) (fun _ => trivial) (fun bs g ev wq hS he hr => ?_)) ?_
    · have r0 : ev (.tmp 1) = .slice y zs.length d := hr (1, none) (by simp); have hk := he.1; clear hr he
      go_simp
    refine GFrom.cons (GStep.val _ rfl rfl _ rfl (fun g => .string sz) (fun _ => rfl) (fun _ => trivial) (fun bs g ev wq hS he hr => ?_)) ?_
    · have r0 : ev (.tmp 28) = .slice y zs.length d := hr (28, some 2) (by simp); have hk := he.1; clear hr he
      have e1 := CV.out wq hS.kp
      go_simp
    refine GFrom.cons (GStep.val _ rfl rfl _ rfl (fun g => .agg #[.string sz, .int .i64 0]) (fun _ => rfl) (fun _ => trivial) (fun bs g ev wq hS he hr => ?_)) ?_
    · have r0 : ev (.tmp 29) = .string sz := hr (29, some 3) (by simp); have hk := he.1; clear hr he
      go_simp
    refine GFrom.cons (GStep.make _ rfl _ rfl (fun _ => trivial) (fun L g ev wq hL hd hcl hS he hr => ?_)) ?_
    · have r0 : ev (.tmp 30) = .agg #[.string sz, .int .i64 0] := hr (30, some 4) (by simp); clear hr he
      have l7 : L 7 = false := by
        cases h : L 7 with
        | false => rfl
        | true => have := hcl 7 _ rfl h 5 (by kernel_rfl); rw [hL] at this; cases this
      refine ⟨.pointer (some ⟨wq.heap.size, 0, none⟩), (g.1, wq.heap.size), wq.alloc (.cells #[.string sz, .int .i64 0] 50), by go_simp, rfl, old_set2 (.pointer (some ⟨wq.heap.size, 0, none⟩)) (.pointer (some ⟨wq.heap.size, 0, none⟩)) hL l7 rfl, ?_⟩
      have kn := (Kp.refl Nb wq).alloc (.cells #[.string sz, .int .i64 0] 50)
      refine ⟨hS.kp.trans kn (fun _ _ h => h), fun e1 => ?_, fun _ => ⟨?_, hS.kp.size⟩, fun e1 _ => ?_⟩
      · have a := hS.eye (by simpa [bitsAt, upd] using e1)
        exact ⟨a.1.kept kn (fun _ _ h => h), a.2⟩
      · have hb := Blk.new wq 50 [.string sz, .int .i64 0]
        show Blk _ _ _ [.string (st zs), .int .i64 0]
        rw [HSZ.out]
        exact hb
      · have a := hS.eye (by simpa [bitsAt, upd] using e1)
        have := a.1.lt
        show g.1 ≠ wq.heap.size
        omega
    refine GFrom.cons (GStep.val _ rfl rfl _ rfl (fun g => .pointer (some ⟨g.1, 0, none⟩)) (fun _ => rfl) (fun _ => trivial) (fun bs g ev wq hS he hr => ?_)) ?_
    · have r0 : ev (.tmp 27) = .pointer (some ⟨g.1, 0, none⟩) := hr (27, some 1) (by simp); have hk := he.1; clear hr he
      go_simp
    refine GFrom.cons (GStep.val _ rfl rfl _ rfl (fun g => .pointer (some ⟨g.2, 0, none⟩)) (fun _ => rfl) (fun _ => trivial) (fun bs g ev wq hS he hr => ?_)) ?_
    · have r0 : ev (.tmp 31) = .pointer (some ⟨g.2, 0, none⟩) := hr (31, some 5) (by simp); have hk := he.1; clear hr he
      go_simp
    exact GFrom.nil
  case hS => exact ⟨(Kp.refl Nb w5).drew, fun h => by simp at h, fun h => by simp at h, fun h => by simp at h⟩
  case hend =>
    intro g w6 h6
    obtain ⟨E, X⟩ := g
    have a1 := h6.eye (by simp)
    have a2 := h6.ref (by simp)
    have NE := hid (h6.ne (by simp) (by simp))
    dsimp only at a1 a2 NE
    have k6 := h6.kp
    have E6 := hid a1.1
    have X6 := hid a2.1
    have LE : Hid (w5.heap.size ≤ E) := hid a1.2
    have LX : Hid (w5.heap.size ≤ X) := hid a2.2
    have D6 := hid (D5.out.kept k6 (fun h => h))
    have P6 := hid (P5.out.kept k6 (fun h => h) (fun _ _ h => h))
    have K6 := hid (K5.out.trans k6 (fun _ _ h => h))
    have ZL : Hid (zs.length ≤ 140737488355328) := hid (by have := HL.out; omega)
    have L5 := hid D5.out.lt
    have LP5 := hid P5.out.lt
    have LV5 : Hid (∀ g, v'.ownBlock = some g → g < w5.heap.size) := hid (fun g hg => (P5.out.own.lt g hg).2)
    clear h6 a1 a2 k6 D5 P5 K5 HV5 CV
    obtain ⟨R, hR⟩ : ∃ R, getC zs = R := ⟨_, rfl⟩
    have RL : Hid (R.1.2.1.length = 16) := hid (by rw [← hR]; exact getC_len zs)
    have CG : Hid (∀ w, EyeAt w E zs 0 → Calls Try.prog 24 #[.pointer (some ⟨E, 0, none⟩)] w (GetPost w E R)) := hid (fun w h => by rw [← hR]; exact cget_any E zs w h ZL.out)
    have CRG : Hid (∀ w, RefAt w X zs 0 → Calls Try.prog 25 #[.pointer (some ⟨X, 0, none⟩)] w (RgetP w X R)) := hid (fun w h => by rw [← hR]; exact rget_any X zs w h HB.out)
    obtain ⟨rc, z3, e3⟩ := R
    clear hR
    simp only [putAll, List.zip_cons_cons, List.zip_nil_right, List.foldl_cons, List.foldl_nil, Act.put, List.setIfInBounds_toArray, List.set_cons_zero, List.set_cons_succ]
    go_wp2_with fail
    refine (CG.out _ E6.out).mono ?_
    rintro e w7 ⟨rfl, e7, k7⟩
    have E7 := hid e7
    have X7 := hid (X6.out.kept k7 (fun h => NE.out (Eq.symm h)))
    have D7 := hid (D6.out.kept k7 (fun h => by have h' : D = E := h; have := L5.out; have := LE.out; omega))
    have P7 := hid (P6.out.kept k7 (fun h => by have h' : P = E := h; have := LP5.out; have := LE.out; omega) (fun g hg h => by have h' : g = E := h; have := LV5.out g hg; have := LE.out; omega))
    have LW : Hid (w.heap.size ≤ w5.heap.size) := hid (by have := L5.out; have := HD.out; omega)
    have K7 := hid (K6.out.trans k7 (fun i hi h => by have h' : i = E := h; have := LE.out; have := LW.out; omega))
    clear E6 X6 D6 P6 K6 e7 k7
    dsimp only at E7 RL
    go_wp2_with fail
    refine (CRG.out _ X7.out).mono ?_
    rintro e w8 ⟨rfl, x8, k8⟩
    dsimp only at x8
    have X8 := hid x8
    have E8 := hid (E7.out.beside X7.out NE.out k8)
    have D8 := hid (D7.out.kept k8 (fun h => by have h' : D = X := h; have := L5.out; have := LX.out; omega))
    have P8 := hid (P7.out.kept k8 (fun h => by have h' : P = X := h; have := LP5.out; have := LX.out; omega) (fun g hg h => by have h' : g = X := h; have := LV5.out g hg; have := LX.out; omega))
    have K8 := hid (K7.out.trans k8 (fun i hi h => by have h' : i = X := h; have := LX.out; have := LW.out; omega))
    clear E7 X7 D7 P7 K7 x8 k8
    -- the two variables
    obtain ⟨N, hN⟩ : ∃ N, w8.heap.size = N := ⟨_, rfl⟩
    obtain ⟨wA, hwA⟩ : ∃ W, W = (w8.alloc (.cells (cl c0).toArray 26)).alloc (.cells (cl c0).toArray 26) := ⟨_, rfl⟩
    have A0 : Blk wA N 26 (cl c0) := by rw [hwA, ← hN]; exact (Blk.new w8 _ _).alloc _
    have A1 : Blk wA (N + 1) 26 (cl c0) := by
      have h := Blk.new (w8.alloc (.cells (cl c0).toArray 26)) 26 (cl c0)
      simp only [World.size_alloc] at h
      rw [hwA, ← hN]
      exact h
    have kA : Kp Nb w8 wA := by rw [hwA]; exact ((Kp.refl Nb w8).alloc _).alloc _
    obtain ⟨wB, hwB⟩ : ∃ W, W = wA.setCells N 0 (cl rc) := ⟨_, rfl⟩
    have B0 : Blk wB N 26 (cl rc) := by rw [hwB]; exact row_set A0 (by rw [cellL_length _ _ _ RL.out]; rfl)
    have kB : Kp (Jb N) wA wB := by rw [hwB]; exact Kp.setCells (S := Jb N) (fun _ => show N = N from rfl) _ 0 _ (Kp.refl _ wA)
    have B1 : Blk wB (N + 1) 26 (cl c0) := A1.kept kB (fun h => by have h' : N + 1 = N := h; omega)
    obtain ⟨wC, hwC⟩ : ∃ W, W = wB.setCells (N + 1) 0 (cl rc) := ⟨_, rfl⟩
    have C1 : Hid (Blk wC (N + 1) 26 (cl rc)) := hid (by rw [hwC]; exact row_set B1 (by rw [cellL_length _ _ _ RL.out]; rfl))
    have kC : Kp (Jb (N + 1)) wB wC := by rw [hwC]; exact Kp.setCells (S := Jb (N + 1)) (fun _ => show N + 1 = N + 1 from rfl) _ 0 _ (Kp.refl _ wB)
    have C0 : Hid (Blk wC N 26 (cl rc)) := hid (B0.kept kC (fun h => by have h' : N = N + 1 := h; omega))
    have kk : Kp Nb w8 wC := (kA.trans kB (S := Nb) (fun i hi h => by have h' : i = N := h; omega)).trans kC (fun i hi h => by have h' : i = N + 1 := h; omega)
    have T0 : Hid (wA.there N 0 (cl rc).toArray.size) := hid (cl_there A0 (cl_length c0_ok) RL.out)
    have T1 : Hid (wB.there (N + 1) 0 (cl rc).toArray.size) := hid (cl_there B1 (cl_length c0_ok) RL.out)
    have SI := hid (cl_sized (c := rc.1) (k := rc.2.2) RL.out)
    have ON := hid (all_oneCell_toArray (cellL_one rc.1 rc.2.1 rc.2.2))
    have XC := hid (X8.out.kept kk (fun h => h))
    have EC := hid (E8.out.kept kk (fun _ _ h => h))
    have DC := hid (D8.out.kept kk (fun h => h))
    have PC := hid (P8.out.kept kk (fun h => h) (fun _ _ h => h))
    have KC := hid (K8.out.trans kk (fun _ _ h => h))
    have HwA := hid hwA
    have HwB := hid hwB
    have HwC := hid hwC
    have HN := hid hN
    clear A0 A1 kA B0 kB B1 kC kk X8 E8 D8 P8 K8 hwA hwB hwC hN
    go_upto_region 11 with (first
      | (rw [show (w8.alloc (.cells #[.int .i64 0, .int .u8 0, .int .u8 0, .int .u8 0, .int .u8 0, .int .u8 0, .int .u8 0, .int .u8 0, .int .u8 0, .int .u8 0, .int .u8 0, .int .u8 0, .int .u8 0, .int .u8 0, .int .u8 0, .int .u8 0, .int .u8 0, .int .u64 0] 26)).alloc (.cells #[.int .i64 0, .int .u8 0, .int .u8 0, .int .u8 0, .int .u8 0, .int .u8 0, .int .u8 0, .int .u8 0, .int .u8 0, .int .u8 0, .int .u8 0, .int .u8 0, .int .u8 0, .int .u8 0, .int .u8 0, .int .u8 0, .int .u8 0, .int .u64 0] 26) = wA from HwA.out.symm, HN.out]; refine wpList_store_mid (by rfl) 26 (.tmp 10) (.tmp 33) (by rfl) N 0 (cl rc).toArray (by rfl) (by rfl) T0.out SI.out ON.out ?_)
      | (rw [show wA.setCells N 0 (cl rc).toArray.toList = wB from HwB.out.symm]; refine wpList_store_mid (by rfl) 26 (.tmp 11) (.tmp 35) (by rfl) (N + 1) 0 (cl rc).toArray (by rfl) (by rfl) T1.out SI.out ON.out ?_))
    rw [show wB.setCells (N + 1) 0 (cl rc) = wC from HwC.out.symm]
    simp only [Act.put]
    clear HwA HwB HwC HN T0 T1 SI ON CG CRG CP HV HL L5 LP5 LV5 LE LX LW LP DP d1 OW3 ZL
    have S3 := hid (st_size z3)
    obtain ⟨s3, hs3⟩ : ∃ s, st z3 = s := ⟨_, rfl⟩
    have X3 : Hid (Blk wC X 50 [.string s3, .int .i64 e3]) := hid (by rw [← hs3]; exact XC.out)
    rw [hs3] at S3
    have EQ := hid (eq_cellm rc RL.out)
    have CPB : Hid (∀ wq, PenAt wq P v' ws → Calls Try.prog 26 #[.pointer (some ⟨P, 0, none⟩)] wq fun e w' => ∃ r, e = .returned r ∧ BySl Nb w' r ws ∧ Kp Nb wq w') := hid (fun wq hp => (pen_bytes P v' ws wq hp WL.out).mono fun e w' ⟨r, h1, ow, kn⟩ => ⟨r, h1, BySl.ofOwn (S := Nb) ow hp.bytes (fun _ _ _ h => h), kn⟩)
    clear hs3 XC
    refine region_ghost (g0 := (undef : Value)) [none, none, none, none, some 35, none, none, none, none, none, none, none, none, none, none, none, none, none, none, none, none, none, none, none, none, none, none, none, none, none, none, none, none, none, none, none, some 0, some 1, some 2, some 3, some 4, some 5, some 6, some 7, some 8, some 9, some 10, some 11, some 12, some 13, some 14, some 15, some 16, some 17, some 18, some 19, some 20, some 21, some 22, some 23, some 24, some 25, some 26, some 27, some 28, some 29, some 30, some 31, some 32, some 33, some 34] [[(6, none)], [(2, none)], [(37, some 1)], [(36, some 0), (38, some 2)], [(39, some 3)], [(5, none)], [(41, some 5)], [(42, some 6)], [(7, none)], [(43, some 7), (44, some 8)], [(40, some 4), (45, some 9)], [(46, some 10)], [(10, none)], [(11, none)], [(48, some 12), (49, some 13)], [(47, some 11), (50, some 14)], [(51, some 15)], [(8, none)], [(53, some 17)], [(9, none)], [(55, some 19)], [(56, some 20)], [(57, some 21)], [(54, some 18), (58, some 22)], [(52, some 16), (59, some 23)], [(60, some 24)], [(8, none)], [(62, some 26)], [(9, none)], [(64, some 28)], [(65, some 29)], [(66, some 30)], [(67, some 31)], [(63, some 27), (68, some 32)], [(61, some 25), (69, some 33)], [(70, some 34)]] [some 36, some 37, some 38, some 39, some 40, some 41, some 42, some 43, some 44, some 45, some 46, some 47, some 48, some 49, some 50, some 51, some 52, some 53, some 54, some 55, some 56, some 57, some 58, some 59, some 60, some 61, some 62, some 63, some 64, some 65, some 66, some 67, some 68, some 69, some 70, some 4] (fun g => [.bool false, cv x, .bool false, .bool true, .bool true, .pointer (some ⟨P, 0, none⟩), g, .string ⟨#[]⟩, .string ⟨#[]⟩, .bool true, .bool true, .bool true, cv rc, cv rc, .bool true, .bool true, .bool true, .pointer (some ⟨E, 0, none⟩), .int .i64 e3, .pointer (some ⟨X, 0, none⟩), .pointer (some ⟨X, 0, none⟩), .pointer (some ⟨X, 1, none⟩), .int .i64 e3, .bool true, .bool true, .bool true, .pointer (some ⟨E, 0, none⟩), .int .i64 (z3.length : Int), .pointer (some ⟨X, 0, none⟩), .pointer (some ⟨X, 0, none⟩), .pointer (some ⟨X, 0, none⟩), .string s3, .int .i64 (z3.length : Int), .bool true, .bool true, .bool true]) [6] (RfS wC ws) (by kernel_rfl) (by kernel_rfl) (fun g => by kernel_rfl) (by kernel_rfl) ?hS (GFrom.all (n := 36) (by kernel_rfl) ?hstep) ?hend
    case hstep =>
      refine GFrom.cons (GStep.val _ rfl rfl _ rfl (fun g => .bool false) (fun _ => rfl) (fun _ => trivial) (fun bs g ev wq hS he hr => ?_)) ?_
      · have r0 : ev (.tmp 6) = .bool false := hr (6, none) (by simp); have hk := he.1; clear hr he
        go_simp
      refine GFrom.cons (GStep.val _ rfl rfl _ rfl (fun g => cv x) (fun _ => rfl) (fun _ => trivial) (fun bs g ev wq hS he hr => ?_)) ?_
      · have r0 : ev (.tmp 2) = .pointer (some ⟨D, 0, none⟩) := hr (2, none) (by simp); have hk := he.1; clear hr he
        exact exec_load rfl r0 (load_cellm HX.out.mark.len (DC.out.kept hS.kp (fun h => h)))
      refine GFrom.cons (GStep.call _ rfl rfl _ rfl (fun g => .bool false) (fun _ => rfl) (fun _ => trivial) 20 (fun g => #[cv x]) (fun bs g ev wq hS he hr => ?_) (fun L g wq hd hL hS => ?_)) ?_
      · have r0 : ev (.tmp 37) = cv x := hr (37, some 1) (by simp); have hk := he.1; have hf := he.2; clear hr he
        go_simp
      · exact (CR.out wq).mono fun e w' ⟨h1, h2⟩ => ⟨h1, hS.keptN h2⟩
      refine GFrom.cons (GStep.val _ rfl rfl _ rfl (fun g => .bool true) (fun _ => rfl) (fun _ => trivial) (fun bs g ev wq hS he hr => ?_)) ?_
      · have r0 : ev (.tmp 36) = .bool false := hr (36, some 0) (by simp); have r1 : ev (.tmp 38) = .bool false := hr (38, some 2) (by simp); have hk := he.1; clear hr he
        go_simp
      refine GFrom.cons (GStep.val _ rfl rfl _ rfl (fun g => .bool true) (fun _ => rfl) (fun _ => trivial) (fun bs g ev wq hS he hr => ?_)) ?_
      · have r0 : ev (.tmp 39) = .bool true := hr (39, some 3) (by simp); have hk := he.1; clear hr he
        go_simp
      refine GFrom.cons (GStep.val _ rfl rfl _ rfl (fun g => .pointer (some ⟨P, 0, none⟩)) (fun _ => rfl) (fun _ => rfl) (fun bs g ev wq hS he hr => ?_)) ?_
      · have r0 : ev (.tmp 5) = .pointer (some ⟨P, 0, none⟩) := hr (5, none) (by simp); have hk := he.1; clear hr he
        go_simp
      refine GFrom.cons (GStep.callm _ rfl _ rfl (fun _ => rfl) 26 (fun g => #[.pointer (some ⟨P, 0, none⟩)]) (fun bs g ev wq hS he hr => ?_) (fun L g wq hL hd hcl hS => ?_)) ?_
      · have r0 : ev (.tmp 41) = .pointer (some ⟨P, 0, none⟩) := hr (41, some 5) (by simp); have hk := he.1; have hf := he.2; clear hr he
        go_simp
      · refine (CPB.out wq (PC.out.kept hS.kp (fun h => h) (fun _ _ h => h))).mono ?_
        rintro e w' ⟨r, rfl, hb, kn⟩
        exact ⟨r, r, rfl, rfl, old_set r hL rfl, (hS.keptN kn).kp, fun _ => hb⟩
      refine GFrom.cons (GStep.make _ rfl _ rfl (fun _ => rfl) (fun L g ev wq hL hd hcl hS he hr => ?_)) ?_
      · have r0 : ev (.tmp 42) = g := hr (42, some 6) (by simp); clear hr he
        have e1 := conv_any (hS.by' (by simp [bitsAt, hd 6 (by kernel_rfl)]))
        rw [HS7.out] at e1
        refine ⟨.string ⟨#[]⟩, g, wq, by go_simp, rfl, fun _ _ => rfl, ?_⟩
        rw [bitsAt_upd (by rfl)]
        exact hS
      refine GFrom.cons (GStep.val _ rfl rfl _ rfl (fun g => .string ⟨#[]⟩) (fun _ => rfl) (fun _ => rfl) (fun bs g ev wq hS he hr => ?_)) ?_
      · have r0 : ev (.tmp 7) = .string ⟨#[]⟩ := hr (7, none) (by simp); have hk := he.1; clear hr he
        go_simp
      refine GFrom.cons (GStep.val _ rfl rfl _ rfl (fun g => .bool true) (fun _ => rfl) (fun _ => rfl) (fun bs g ev wq hS he hr => ?_)) ?_
      · have r0 : ev (.tmp 43) = .string ⟨#[]⟩ := hr (43, some 7) (by simp); have r1 : ev (.tmp 44) = .string ⟨#[]⟩ := hr (44, some 8) (by simp); have hk := he.1; clear hr he
        go_simp
      refine GFrom.cons (GStep.val _ rfl rfl _ rfl (fun g => .bool true) (fun _ => rfl) (fun _ => trivial) (fun bs g ev wq hS he hr => ?_)) ?_
      · have r0 : ev (.tmp 40) = .bool true := hr (40, some 4) (by simp); have r1 : ev (.tmp 45) = .bool true := hr (45, some 9) (by simp); have hk := he.1; clear hr he
        go_simp
      refine GFrom.cons (GStep.val _ rfl rfl _ rfl (fun g => .bool true) (fun _ => rfl) (fun _ => trivial) (fun bs g ev wq hS he hr => ?_)) ?_
      · have r0 : ev (.tmp 46) = .bool true := hr (46, some 10) (by simp); have hk := he.1; clear hr he
        go_simp
      refine GFrom.cons (GStep.val _ rfl rfl _ rfl (fun g => cv rc) (fun _ => rfl) (fun _ => rfl) (fun bs g ev wq hS he hr => ?_)) ?_
      · have r0 : ev (.tmp 10) = .pointer (some ⟨N, 0, none⟩) := hr (10, none) (by simp); have hk := he.1; clear hr he
        exact exec_load rfl r0 (load_cellm RL.out (C0.out.kept hS.kp (fun h => h)))
      refine GFrom.cons (GStep.val _ rfl rfl _ rfl (fun g => cv rc) (fun _ => rfl) (fun _ => rfl) (fun bs g ev wq hS he hr => ?_)) ?_
      · have r0 : ev (.tmp 11) = .pointer (some ⟨(N + 1), 0, none⟩) := hr (11, none) (by simp); have hk := he.1; clear hr he
        exact exec_load rfl r0 (load_cellm RL.out (C1.out.kept hS.kp (fun h => h)))
      refine GFrom.cons (GStep.val _ rfl rfl _ rfl (fun g => .bool true) (fun _ => rfl) (fun _ => rfl) (fun bs g ev wq hS he hr => ?_)) ?_
      · have r0 : ev (.tmp 48) = cv rc := hr (48, some 12) (by simp); have r1 : ev (.tmp 49) = cv rc := hr (49, some 13) (by simp); have hk := he.1; clear hr he
        exact exec_eqlCell rfl r0 r1 (EQ.out wq)
      refine GFrom.cons (GStep.val _ rfl rfl _ rfl (fun g => .bool true) (fun _ => rfl) (fun _ => trivial) (fun bs g ev wq hS he hr => ?_)) ?_
      · have r0 : ev (.tmp 47) = .bool true := hr (47, some 11) (by simp); have r1 : ev (.tmp 50) = .bool true := hr (50, some 14) (by simp); have hk := he.1; clear hr he
        go_simp
      refine GFrom.cons (GStep.val _ rfl rfl _ rfl (fun g => .bool true) (fun _ => rfl) (fun _ => trivial) (fun bs g ev wq hS he hr => ?_)) ?_
      · have r0 : ev (.tmp 51) = .bool true := hr (51, some 15) (by simp); have hk := he.1; clear hr he
        go_simp
      refine GFrom.cons (GStep.val _ rfl rfl _ rfl (fun g => .pointer (some ⟨E, 0, none⟩)) (fun _ => rfl) (fun _ => rfl) (fun bs g ev wq hS he hr => ?_)) ?_
      · have r0 : ev (.tmp 8) = .pointer (some ⟨E, 0, none⟩) := hr (8, none) (by simp); have hk := he.1; clear hr he
        go_simp
      refine GFrom.cons (GStep.call _ rfl rfl _ rfl (fun g => .int .i64 e3) (fun _ => rfl) (fun _ => rfl) 27 (fun g => #[.pointer (some ⟨E, 0, none⟩)]) (fun bs g ev wq hS he hr => ?_) (fun L g wq hd hL hS => ?_)) ?_
      · have r0 : ev (.tmp 53) = .pointer (some ⟨E, 0, none⟩) := hr (53, some 17) (by simp); have hk := he.1; have hf := he.2; clear hr he
        go_simp
      · exact (err_any E z3 e3 wq (EC.out.kept hS.kp (fun _ _ h => h))).mono fun e w' ⟨h1, h2⟩ => ⟨h1, by rw [← h2]; exact hS⟩
      refine GFrom.cons (GStep.val _ rfl rfl _ rfl (fun g => .pointer (some ⟨X, 0, none⟩)) (fun _ => rfl) (fun _ => rfl) (fun bs g ev wq hS he hr => ?_)) ?_
      · have r0 : ev (.tmp 9) = .pointer (some ⟨X, 0, none⟩) := hr (9, none) (by simp); have hk := he.1; clear hr he
        go_simp
      refine GFrom.cons (GStep.val _ rfl rfl _ rfl (fun g => .pointer (some ⟨X, 0, none⟩)) (fun _ => rfl) (fun _ => rfl) (fun bs g ev wq hS he hr => ?_)) ?_
      · have r0 : ev (.tmp 55) = .pointer (some ⟨X, 0, none⟩) := hr (55, some 19) (by simp); have hk := he.1; clear hr he
        go_simp
      refine GFrom.cons (GStep.val _ rfl rfl _ rfl (fun g => .pointer (some ⟨X, 1, none⟩)) (fun _ => rfl) (fun _ => rfl) (fun bs g ev wq hS he hr => ?_)) ?_
      · have r0 : ev (.tmp 56) = .pointer (some ⟨X, 0, none⟩) := hr (56, some 20) (by simp); have hk := he.1; clear hr he
        go_simp
      refine GFrom.cons (GStep.val _ rfl rfl _ rfl (fun g => .int .i64 e3) (fun _ => rfl) (fun _ => rfl) (fun bs g ev wq hS he hr => ?_)) ?_
      · have r0 : ev (.tmp 57) = .pointer (some ⟨X, 1, none⟩) := hr (57, some 21) (by simp); have hk := he.1; clear hr he
        have c0 := (X3.out.kept hS.kp (fun h => h)).cell 1
        go_simp
      refine GFrom.cons (GStep.val _ rfl rfl _ rfl (fun g => .bool true) (fun _ => rfl) (fun _ => rfl) (fun bs g ev wq hS he hr => ?_)) ?_
      · have r0 : ev (.tmp 54) = .int .i64 e3 := hr (54, some 18) (by simp); have r1 : ev (.tmp 58) = .int .i64 e3 := hr (58, some 22) (by simp); have hk := he.1; clear hr he
        go_simp
      refine GFrom.cons (GStep.val _ rfl rfl _ rfl (fun g => .bool true) (fun _ => rfl) (fun _ => trivial) (fun bs g ev wq hS he hr => ?_)) ?_
      · have r0 : ev (.tmp 52) = .bool true := hr (52, some 16) (by simp); have r1 : ev (.tmp 59) = .bool true := hr (59, some 23) (by simp); have hk := he.1; clear hr he
        go_simp
      refine GFrom.cons (GStep.val _ rfl rfl _ rfl (fun g => .bool true) (fun _ => rfl) (fun _ => trivial) (fun bs g ev wq hS he hr => ?_)) ?_
      · have r0 : ev (.tmp 60) = .bool true := hr (60, some 24) (by simp); have hk := he.1; clear hr he
        go_simp
      refine GFrom.cons (GStep.val _ rfl rfl _ rfl (fun g => .pointer (some ⟨E, 0, none⟩)) (fun _ => rfl) (fun _ => rfl) (fun bs g ev wq hS he hr => ?_)) ?_
      · have r0 : ev (.tmp 8) = .pointer (some ⟨E, 0, none⟩) := hr (8, none) (by simp); have hk := he.1; clear hr he
        go_simp
      refine GFrom.cons (GStep.call _ rfl rfl _ rfl (fun g => .int .i64 (z3.length : Int)) (fun _ => rfl) (fun _ => rfl) 28 (fun g => #[.pointer (some ⟨E, 0, none⟩)]) (fun bs g ev wq hS he hr => ?_) (fun L g wq hd hL hS => ?_)) ?_
      · have r0 : ev (.tmp 62) = .pointer (some ⟨E, 0, none⟩) := hr (62, some 26) (by simp); have hk := he.1; have hf := he.2; clear hr he
        go_simp
      · exact (left_any E z3 e3 wq (EC.out.kept hS.kp (fun _ _ h => h))).mono fun e w' ⟨h1, h2⟩ => ⟨h1, by rw [← h2]; exact hS⟩
      refine GFrom.cons (GStep.val _ rfl rfl _ rfl (fun g => .pointer (some ⟨X, 0, none⟩)) (fun _ => rfl) (fun _ => rfl) (fun bs g ev wq hS he hr => ?_)) ?_
      · have r0 : ev (.tmp 9) = .pointer (some ⟨X, 0, none⟩) := hr (9, none) (by simp); have hk := he.1; clear hr he
        go_simp
      refine GFrom.cons (GStep.val _ rfl rfl _ rfl (fun g => .pointer (some ⟨X, 0, none⟩)) (fun _ => rfl) (fun _ => rfl) (fun bs g ev wq hS he hr => ?_)) ?_
      · have r0 : ev (.tmp 64) = .pointer (some ⟨X, 0, none⟩) := hr (64, some 28) (by simp); have hk := he.1; clear hr he
        go_simp
      refine GFrom.cons (GStep.val _ rfl rfl _ rfl (fun g => .pointer (some ⟨X, 0, none⟩)) (fun _ => rfl) (fun _ => rfl) (fun bs g ev wq hS he hr => ?_)) ?_
      · have r0 : ev (.tmp 65) = .pointer (some ⟨X, 0, none⟩) := hr (65, some 29) (by simp); have hk := he.1; clear hr he
        go_simp
      refine GFrom.cons (GStep.val _ rfl rfl _ rfl (fun g => .string s3) (fun _ => rfl) (fun _ => rfl) (fun bs g ev wq hS he hr => ?_)) ?_
      · have r0 : ev (.tmp 66) = .pointer (some ⟨X, 0, none⟩) := hr (66, some 30) (by simp); have hk := he.1; clear hr he
        have c0 := (X3.out.kept hS.kp (fun h => h)).cell 0
        go_simp
      refine GFrom.cons (GStep.val _ rfl rfl _ rfl (fun g => .int .i64 (z3.length : Int)) (fun _ => rfl) (fun _ => rfl) (fun bs g ev wq hS he hr => ?_)) ?_
      · have r0 : ev (.tmp 67) = .string s3 := hr (67, some 31) (by simp); have hk := he.1; clear hr he
        have e1 := S3.out
        go_simp
      refine GFrom.cons (GStep.val _ rfl rfl _ rfl (fun g => .bool true) (fun _ => rfl) (fun _ => rfl) (fun bs g ev wq hS he hr => ?_)) ?_
      · have r0 : ev (.tmp 63) = .int .i64 (z3.length : Int) := hr (63, some 27) (by simp); have r1 : ev (.tmp 68) = .int .i64 (z3.length : Int) := hr (68, some 32) (by simp); have hk := he.1; clear hr he
        go_simp
      refine GFrom.cons (GStep.val _ rfl rfl _ rfl (fun g => .bool true) (fun _ => rfl) (fun _ => trivial) (fun bs g ev wq hS he hr => ?_)) ?_
      · have r0 : ev (.tmp 61) = .bool true := hr (61, some 25) (by simp); have r1 : ev (.tmp 69) = .bool true := hr (69, some 33) (by simp); have hk := he.1; clear hr he
        go_simp
      refine GFrom.cons (GStep.val _ rfl rfl _ rfl (fun g => .bool true) (fun _ => rfl) (fun _ => trivial) (fun bs g ev wq hS he hr => ?_)) ?_
      · have r0 : ev (.tmp 70) = .bool true := hr (70, some 34) (by simp); have hk := he.1; clear hr he
        go_simp
      exact GFrom.nil
    case hS => exact ⟨(Kp.refl Nb wC).drew, fun h => by simp at h⟩
    case hend =>
      intro g wy hy
      have K9 := hid (KC.out.trans hy.kp (fun _ _ h => h))
      clear hy
      simp only [putAll, List.zip_cons_cons, List.zip_nil_right, List.foldl_cons, List.foldl_nil, Act.put, List.setIfInBounds_toArray, List.set_cons_zero, List.set_cons_succ]
      go_wp2
      go_ret
      exact ⟨rfl, K9.out⟩


theorem creads_any (x : Cel) (v : Value) (zs : List Int) (w : World) (hx : CelOk x) (hv : BySl Nb w v zs) :
    Calls Try.prog 4 #[cv x, v] w fun e w' => e = .returned (.bool true) ∧ Kp Nb w w' := by
  cases hr : crightB x.1 with
  | true => exact creads_yes x v zs w hx hv hr
  | false => exact creads_no x v zs w hx hv hr

end Go.Proofs.Ytofjkaemakdmeaa
