/-
  Layer 19: frames: the walk of Put. Conditions: a frame's kind is an int, its body bytes; fewer than 2^40 of them.
-/
import Derived.Test.YtmgmghlflldepaaFrB
namespace Go.Proofs.Ytmgmghlflldepaa
open Go.RowKit

theorem fr_under : ∃ d, Try.prog.underlying 24 = some d ∧ d.isRow = true := ⟨_, Try.underlying24, rfl⟩
theorem fr_info : (Try.prog.info? 24).map (·.size) = some 2 := by kernel_rfl
theorem fr_infoL (k : Int) (v : Value) : (Try.prog.info? 24).map (·.size) = some (frL k v).length := fr_info
theorem penTo_nbF {w w' : World} {B : Nat} {v : Value} (k : Kp Nb w w') : PenTo w w' B v v := ⟨k.mono (fun _ _ h => h.elim), .inl rfl⟩
theorem kp_pen {w1 W4 w7 : World} {P : Nat} {v : Value} (k : Kp Nb w1 W4) (t : PenTo W4 w7 P (.slice none 0 0) v) (hP : w1.heap.size ≤ P) : Kp Nb w1 w7 :=
  k.trans t.kp (fun i hi h => h.elim (fun h => by omega) (fun h => by simp [Value.ownBlock] at h))
/-- A frame's bytes ahead of its sum, and all of them. -/
def aheadF (k : Int) (zs : List Int) : List Int := [71] ++ numBytes k ++ numBytes zs.length ++ zs
def frameF (k : Int) (zs : List Int) : List Int := aheadF k zs ++ sumF (aheadF k zs)

set_option maxRecDepth 100000 in
set_option maxHeartbeats 1000000 in
theorem fput_no (k : Int) (v : Value) (zs : List Int) (w : World) (hv : BySl Nb w v zs) (hr : rightF k zs.length = false) :
    Calls Try.prog 13 #[frV k v] w fun e w' => e = .returned (.slice none 0 0) ∧ Kp Nb w w' := by
  obtain ⟨y, d, rfl⟩ := hv.shp
  obtain ⟨du, hu, hd⟩ := fr_under
  have HU := hid hu
  have CR : Hid (∀ w, Calls Try.prog 12 #[frV k (.slice y zs.length d)] w fun e w' => e = .returned (.bool false) ∧ Kp Nb w w') := hid (fun w => by rw [← hr]; exact fright_any k y zs.length d w)
  have HB := hid (Blk.new w 24 (frL k (.slice y zs.length d)))
  have K0 := hid ((Kp.refl Nb w).alloc (.cells (frL k (.slice y zs.length d)).toArray 24))
  clear hv hr hu
  go_enter Try.func13, Try.ntmps13
  go_wp2_with (refine wpList_load_mid (by rfl) 24 (.tmp 1) (by rfl) w.heap.size 0 (by rfl) (frL k (.slice y zs.length d)) du (range_of HB.out) HU.out hd (fr_infoL _ _) ?_)
  refine (CR.out _).mono ?_
  rintro e w1 ⟨rfl, k1⟩
  have K9 := hid (K0.out.trans k1 (fun _ _ h => h))
  clear k1
  go_wp2
  go_ret
  exact ⟨rfl, K9.out⟩

set_option maxRecDepth 100000 in
set_option maxHeartbeats 4000000 in
theorem fput_yes (k : Int) (v : Value) (zs : List Int) (w : World) (hv : BySl Nb w v zs) (hr : rightF k zs.length = true) :
    Calls Try.prog 13 #[frV k v] w fun e w' => ∃ r, e = .returned r ∧ w'.ownsRow w.heap.size 5 1 r (frameF k zs).length ((frameF k zs).map (Value.int .u8)) ∧ Kp Nb w w' := by
  obtain ⟨y, d, rfl⟩ := hv.shp
  have hrr : 1 ≤ k ∧ k ≤ 14 ∧ zs.length ≤ 2048 := of_decide_eq_true hr
  obtain ⟨du, hu, hd⟩ := fr_under
  have HU := hid hu
  have CR : Hid (∀ w, Calls Try.prog 12 #[frV k (.slice y zs.length d)] w fun e w' => e = .returned (.bool true) ∧ Kp Nb w w') := hid (fun w => by rw [← hr]; exact fright_any k y zs.length d w)
  have HV := hid hv
  have HR := hid hrr
  obtain ⟨L, hL⟩ : ∃ L, zs.length = L := ⟨_, rfl⟩
  have HL := hid hL
  rw [hL] at HV CR HR ⊢
  have hw : IntKind.u64.wrap k = k := by rw [IntKind.wrap_u64]; omega
  obtain ⟨N, hN⟩ : ∃ N, N = w.heap.size := ⟨_, rfl⟩
  obtain ⟨W, hW⟩ : ∃ W, W = w.alloc (.cells (frL k (.slice y L d)).toArray 24) := ⟨_, rfl⟩
  have HB : Hid (Blk W N 24 (frL k (.slice y L d))) := hid (by rw [hW, hN]; exact Blk.new _ _ _)
  have K0 : Hid (Kp Nb w W) := hid (by rw [hW]; exact (Kp.refl Nb w).alloc _)
  have LN : Hid (w.heap.size ≤ N) := hid (Nat.le_of_eq hN.symm)
  clear hv hr hu hrr hL
  go_enter Try.func13, Try.ntmps13
  go_upto_region 1 with fail
  rw [show w.alloc (.cells #[.int .i64 k, .slice y L d] 24) = W from hW.symm, ← hN]
  clear hW hN
  have b0 := HB.out.cell 0
  have b1 := HB.out.cell 1
  simp only [List.getElem?_cons_zero, List.getElem?_cons_succ] at b0 b1
  go_wp2_with fail
  refine (CR.out _).mono ?_
  rintro e w1 ⟨rfl, k1⟩
  have HB1 := hid (HB.out.kept k1 (fun h => h))
  have K1 := hid (K0.out.trans k1 (fun _ _ h => h))
  have HV1 := hid (HV.out.kept (K0.out.trans k1 (fun _ _ h => h)) (fun _ h => h))
  clear k1 HB K0 HV CR b0 b1
  obtain ⟨P, hP⟩ : ∃ P, P = w1.heap.size := ⟨_, rfl⟩
  obtain ⟨W4, hW4⟩ : ∃ W, W = w1.alloc (.cells #[.slice none 0 0] 59) := ⟨_, rfl⟩
  have P4 : Hid (PenAt W4 P (.slice none 0 0) []) := hid (by rw [hW4, hP]; exact pen_new w1)
  have k4 : Kp Nb w1 W4 := by rw [hW4]; exact (Kp.refl Nb w1).alloc _
  have LP : Hid (w1.heap.size ≤ P) := hid (Nat.le_of_eq hP.symm)
  have KW4 := hid k4
  clear k4
  go_upto_region 4 with fail
  rw [show w1.alloc (.cells #[.slice none 0 0] 59) = W4 from hW4.symm, ← hP]
  clear hW4 hP
  have kc := (Kp.refl Nb W4).alloc (.cells #[.int .u8 71] 5 (0, 0))
  have P5 := hid (P4.out.kept kc (fun h => h) (fun _ _ h => h))
  have L5 := hid (BySl.constant W4 5 71 (by decide) (0, 0))
  have TP5 := hid (penTo_nbF (v := .slice none 0 0) (B := P) kc)
  clear kc P4
  go_wp2_with fail
  refine (pen_fixed (S := Nb) P _ _ _ [71] _ P5.out L5.out (by simp)).mono ?_
  rintro e w5 ⟨rfl, v5, p5, t5⟩
  have P6 := hid p5
  have TP6 := hid (TP5.out.trans t5)
  have KQ6 := hid (kp_pen KW4.out TP6.out LP.out)
  have HB6 := hid (HB1.out.kept KQ6.out (fun h => h))
  have c0 := HB6.out.cell 0
  simp only [List.getElem?_cons_zero] at c0
  clear p5 t5 P5 L5 TP5
  go_wp2_with fail
  refine (pen_number P v5 _ k _ P6.out (by have := HR.out; omega) (by have := HR.out; omega) (by simp)).mono ?_
  rintro e w7 ⟨rfl, v7, p7, t7⟩
  have P7 := hid p7
  have TP7 := hid (TP6.out.trans t7)
  have KQ7 := hid (kp_pen KW4.out TP7.out LP.out)
  have HB7 := hid (HB1.out.kept KQ7.out (fun h => h))
  have NK : Hid ((numBytes k).length ≤ 9) := hid (numBytes_length k (by have := HR.out; omega))
  have NL : Hid ((numBytes (zs.length : Int)).length ≤ 9) := hid (numBytes_length _ (by have := HR.out; have := HL.out; omega))
  have OW7 : Hid (∀ g, v7.ownBlock = some g → W4.heap.size ≤ g) := hid (penTo_own TP7.out rfl)
  have BV7 : Hid (BySl (Pb P v7) w7 (.slice y L d) zs) := hid (by_old HV1.out KQ7.out (fun i hi h => h.elim (fun h => by have := LP.out; omega) (fun h => by have := OW7.out i h; have := KW4.out.size; omega)))
  have c1 := HB7.out.cell 1
  simp only [List.getElem?_cons_zero, List.getElem?_cons_succ] at c1
  clear p7 t7 P6 TP6 HB6 KQ6 c0
  go_wp2_with fail
  refine (pen_text P v7 _ _ zs _ P7.out BV7.out (by have := HR.out; have := HL.out; have := NK.out; simp; omega)).mono ?_
  rintro e w8 ⟨rfl, v8, p8, t8⟩
  have EA : Hid ([] ++ [71] ++ numBytes k ++ numBytes (zs.length : Int) ++ zs = aheadF k zs) := hid rfl
  have p9 : PenAt w8 P v8 (aheadF k zs) := by rw [← EA.out]; simpa only [List.append_assoc] using p8
  have LA : Hid ((aheadF k zs).length ≤ 2100) := hid (by unfold aheadF; simp only [List.length_append, List.length_singleton]; have := NK.out; have := NL.out; have := HR.out; have := HL.out; omega)
  have P8 := hid p9
  have TP8 := hid (TP7.out.trans t8)
  have BA := hid p9.bytes
  have HFR : Hid (frameF k zs = aheadF k zs ++ sumF (aheadF k zs)) := hid rfl
  generalize aheadF k zs = A at P8 LA BA HFR
  clear p8 p9 t8 EA c1 P7 BV7 OW7 TP7 HB7 KQ7 NK NL
  go_wp2_with fail
  refine (pen_bytes P v8 A w8 P8.out (by have := LA.out; omega)).mono ?_
  rintro e wa ⟨ra, rfl, oa, ka⟩
  have Ba := hid (BySl.ofOwn (S := Nb) oa BA.out (fun _ _ _ h => h))
  have Pa := hid (P8.out.kept ka (fun h => h) (fun _ _ h => h))
  have TPa := hid (TP8.out.trans (penTo_nbF ka))
  clear oa ka P8 TP8
  go_wp2_with fail
  refine (fsum_any ra A wa Ba.out (by have := LA.out; omega)).mono ?_
  rintro e wb ⟨rb, rfl, ob, kb⟩
  have LB : Hid ((sumF A).length = 8) := hid (sumK_length _ 8)
  have Bb : Hid (BySl Nb wb rb (sumF A)) := hid (BySl.ofOwn (base := wa.heap.size) (by rw [LB.out]; exact ob) (sumK_bytes _ _) (fun _ _ _ h => h))
  have Pb' := hid (Pa.out.kept kb (fun h => h) (fun _ _ h => h))
  have TPb := hid (TPa.out.trans (penTo_nbF kb))
  clear ob kb Pa TPa Ba
  go_wp2_with fail
  refine (pen_fixed (S := Nb) P v8 rb A (sumF A) wb Pb'.out Bb.out (by rw [LB.out]; have := LA.out; omega)).mono ?_
  rintro e wc ⟨rfl, vc, pc, tc⟩
  rw [← HFR.out] at pc
  have LF : Hid ((frameF k zs).length ≤ 3000) := hid (by rw [HFR.out, List.length_append, LB.out]; have := LA.out; omega)
  have Pc := hid pc
  have TPc := hid (TPb.out.trans tc)
  obtain ⟨F, hF⟩ : ∃ F, frameF k zs = F := ⟨_, rfl⟩
  rw [hF] at Pc LF
  have HFE := hid hF
  clear hF
  clear pc tc Pb' TPb Bb
  go_wp2_with fail
  refine (pen_bytes P vc F wc Pc.out (by have := LF.out; omega)).mono ?_
  rintro e wd ⟨rd, rfl, od, kd⟩
  have KD := hid ((K1.out.trans (kp_pen KW4.out TPc.out LP.out) (fun _ _ h => h)).trans kd (fun _ _ h => h))
  have OD := hid (ownsRow_le od (K1.out.trans (kp_pen KW4.out TPc.out LP.out) (fun _ _ h => h)).size)
  obtain ⟨yd, dd, rfl⟩ := own_shape od
  clear od kd
  go_wp2
  go_ret
  exact ⟨_, rfl, by rw [HFE.out]; exact OD.out, KD.out⟩

end Go.Proofs.Ytmgmghlflldepaa
