/-
  Layer 9: the statements' own first. No condition.
-/
import Derived.Test.YtijlmfmpfjjlpaaMaO
namespace Go.Proofs.Ytijlmfmpfjjlpaa
open Go.RowKit Go.Shelf
attribute [local go_sem] Oper.semAt_some

theorem bsN (w : World) : (Instr.buildSlice 22 3 #[(0, markV (mN 2)), (1, markV (mN 1)), (2, markV (mN 2))]).run Try.prog w = .ok (.slice (some ⟨w.heap.size, 0, none⟩) 3 3) (w.alloc (.cells (flatR markL [mN 2, mN 1, mN 2]).toArray 24 (0, 0))) := by kernel_rfl
theorem bsM (w : World) : (Instr.buildSlice 22 2 #[(0, markV (mN 3)), (1, markV (mN 2))]).run Try.prog w = .ok (.slice (some ⟨w.heap.size, 0, none⟩) 2 2) (w.alloc (.cells (flatR markL [mN 3, mN 2]).toArray 24 (0, 0))) := by kernel_rfl
structure Fst (w : World) (va vb vP : Value) (P : Nat) (a b : List (List Int)) (bs : List Int) (W : World) : Prop where
  ha : MkSl W va a
  hb : MkSl W vb b
  hp : PenAt W P vP bs
  la : ∀ g, va.ownBlock = some g → g < W.heap.size
  lb : ∀ g, vb.ownBlock = some g → g < W.heap.size
  k : Kp Nb w W
theorem Fst.step {w W W' : World} {va vb vP : Value} {P : Nat} {a b : List (List Int)} {bs : List Int} (h : Fst w va vb vP P a b bs W) (k : Kp Nb W W') : Fst w va vb vP P a b bs W' :=
  ⟨h.ha.kept k, h.hb.kept k, h.hp.kept k (fun h => h) (fun _ _ h => h), fun g hg => Nat.lt_of_lt_of_le (h.la g hg) k.size, fun g hg => Nat.lt_of_lt_of_le (h.lb g hg) k.size, h.k.trans k (fun _ _ h => h)⟩
set_option maxRecDepth 100000 in
set_option maxHeartbeats 4000000 in
theorem mfirst_any (w : World) : Calls Try.prog 8 #[] w fun e w' => e = .returned (.bool true) ∧ Kp Nb w w' := by
  have FA : Hid (∀ out, Rise out → (∀ m, m ∈ out ↔ m ∈ [mN 2, mN 1, mN 2]) → out = [mN 1, mN 2]) := hid (fun out hr h => f_a hr h)
  have FB : Hid (∀ out, Rise out → (∀ m, m ∈ out ↔ m ∈ [mN 3, mN 2]) → out = [mN 2, mN 3]) := hid (fun out hr h => f_b hr h)
  have FU := hid f_u
  have FM := hid f_m
  have FI := hid f_i
  have FF := hid f_f
  have FR := hid f_r
  have FG := hid f_g
  have FN : Hid (0 ≤ (readN (bytesM [mN 1, mN 2]) 0 4096).1 ∧ (readN (bytesM [mN 1, mN 2]) 0 4096).1 ≤ 4096) := hid (by rw [f_n]; decide)
  have FL : Hid ((bytesM [mN 1, mN 2]).length ≤ 100) := hid (by decide)
  have FC := hid f_c
  have FH2 : Hid (decide (mN 2 ∈ [mN 1, mN 2]) = true) := hid (by decide)
  have FH3 : Hid (decide (mN 3 ∈ [mN 1, mN 2]) = false) := hid (by decide)
  have O1 : Hid (MarkOk (mN 1)) := hid (mN_ok (by decide))
  have O2 : Hid (MarkOk (mN 2)) := hid (mN_ok (by decide))
  have O3 : Hid (MarkOk (mN 3)) := hid (mN_ok (by decide))
  have B3 := hid bsN
  have B2 := hid bsM
  have MA : Hid (∀ m ∈ [(mN 2), mN 1, mN 2], MarkOk m) := hid (fun m hm => by simp only [List.mem_cons, List.not_mem_nil, or_false] at hm; rcases hm with h | h | h <;> rw [h] <;> first | exact O1.out | exact O2.out)
  have MB : Hid (∀ m ∈ [(mN 3), (mN 2)], MarkOk m) := hid (fun m hm => by simp only [List.mem_cons, List.not_mem_nil, or_false] at hm; rcases hm with h | h <;> rw [h] <;> first | exact O2.out | exact O3.out)
  go_enter Try.func8, Try.ntmps8
  go_wp2_with (first
    | (refine wpList_val (by rfl) _ _ (exec_buildSlice rfl (qs := #[(0, markV (mN 2)), (1, markV (mN 1)), (2, markV (mN 2))]) ?_ (B3.out _)) ?_; focus (simp [Act.eval, mN, markL]; done)))
  refine (mof_any _ [(mN 2), mN 1, mN 2] _ (mk_blk (Blk.new _ _ _) MA.out (by simp [maxLen])) (by simp)).mono ?_
  rintro r w1 ⟨va, out, rfl, h1, hr1, hm1, -, ho1, k1⟩
  obtain rfl := FA.out out hr1 hm1
  obtain ⟨blk, off, cap, e, hcap, -, hcell⟩ := mk_shape h1 (by simp)
  have hva : va = .slice (some ⟨blk, off, none⟩) 2 cap := e
  have K1 : Hid (Kp Nb w w1) := hid (((Kp.refl Nb w).alloc _).trans k1 (fun _ _ h => h))
  have H1 := hid h1
  have G1 : Hid (∀ g, va.ownBlock = some g → g < w1.heap.size) := hid (fun g hg => (ho1 g hg).2)
  have HCAP : Hid (2 ≤ cap) := hid hcap
  clear e h1 hr1 hm1 ho1 k1 hcell hcap
  go_wp2_with (first
    | (refine wpList_val (by rfl) _ _ (exec_buildSlice rfl (qs := #[(0, markV (mN 3)), (1, markV (mN 2))]) ?_ (B2.out _)) ?_; focus (simp [Act.eval, mN, markL]; done)))
  refine (mof_any _ [(mN 3), (mN 2)] _ (mk_blk (Blk.new _ _ _) MB.out (by simp [maxLen])) (by simp)).mono ?_
  rintro r w2 ⟨vb, out, rfl, h2, hr2, hm2, -, ho2, k2⟩
  obtain rfl := FB.out out hr2 hm2
  obtain ⟨yb, db, e⟩ := h2.shape
  have hvb : vb = .slice yb 2 db := e
  have hk12 : Kp Nb w1 w2 := ((Kp.refl Nb w1).alloc _).trans k2 (fun _ _ h => h)
  have K2 : Hid (Kp Nb w w2) := hid (K1.out.trans hk12 (fun _ _ h => h))
  have HA2 := hid (H1.out.kept hk12)
  have HB2 := hid h2
  have GA2 : Hid (∀ g, va.ownBlock = some g → g < w2.heap.size) := hid (fun g hg => Nat.lt_of_lt_of_le (G1.out g hg) hk12.size)
  have GB2 : Hid (∀ g, vb.ownBlock = some g → g < w2.heap.size) := hid (fun g hg => (ho2 g hg).2)
  clear e h2 hr2 hm2 ho2 k2 hk12 K1 H1 G1
  obtain ⟨P, hP⟩ : ∃ P, w2.heap.size = P := ⟨_, rfl⟩
  obtain ⟨W3, hW3⟩ : ∃ W, W = w2.alloc (.cells #[.slice none 0 0] 48) := ⟨_, rfl⟩
  have PN : Hid (PenAt W3 P (.slice none 0 0) []) := hid (by rw [hW3, ← hP]; exact pen_new w2)
  have K3 : Hid (Kp Nb w2 W3) := hid (by rw [hW3]; exact (Kp.refl Nb w2).alloc _)
  have CP := mput_any P va [mN 1, mN 2] W3 (HA2.out.kept K3.out) PN.out (fun g hg => by have := GA2.out g hg; omega) (by simp)
  rw [FR.out, if_pos rfl] at CP
  have CP := hid CP
  subst hva
  subst hvb
  have HPW : Hid (w2.heap.size = P) := hid hP
  go_upto_region 3 with fail
  rw [← hW3]
  try simp only [hP]
  clear hW3 hP
  go_wp2_with fail
  refine CP.out.mono ?_
  rintro r w4 ⟨rfl, vP, p4, t4⟩
  have HF : Hid (Fst w (.slice (some ⟨blk, off, none⟩) 2 cap) (.slice yb 2 db) vP P [mN 1, mN 2] [(mN 2), (mN 3)] (bytesM [mN 1, mN 2]) w4) := hid ⟨pen_sep t4 (HA2.out.kept K3.out) (fun g hg => by have := GA2.out g hg; have := HPW.out; omega), pen_sep t4 (HB2.out.kept K3.out) (fun g hg => by have := GB2.out g hg; have := HPW.out; omega), p4,
    fun g hg => Nat.lt_of_lt_of_le (GA2.out g hg) (Nat.le_trans K3.out.size t4.kp.size), fun g hg => Nat.lt_of_lt_of_le (GB2.out g hg) (Nat.le_trans K3.out.size t4.kp.size),
    (K2.out.trans K3.out (fun _ _ h => h)).trans t4.kp (fun i hi h => h.elim (fun h => by have := HPW.out; have := K2.out.size; omega) (fun h => by simp [Value.ownBlock] at h))⟩
  have hR : w4.rangeAt blk off (markL (mN 1)) := by
    obtain ⟨b', o', c', e, _, _, hc⟩ := mk_shape HF.out.ha (by simp)
    injection e with e1 e2 e3
    injection e1 with e1
    injection e1 with e1 e4
    subst e1 e4
    have h := hc 0 (by simp)
    rw [Nat.zero_mul, Nat.add_zero] at h
    exact h.2
  have c0 : w4.cell? ⟨blk, off + 0, none⟩ = some (.int .u8 1) := hR 0 _ rfl
  have c1 : w4.cell? ⟨blk, off + 1, none⟩ = some (.int .u8 0) := hR 1 _ rfl
  have c2 : w4.cell? ⟨blk, off + 2, none⟩ = some (.int .u8 0) := hR 2 _ rfl
  have c3 : w4.cell? ⟨blk, off + 3, none⟩ = some (.int .u8 0) := hR 3 _ rfl
  have c4 : w4.cell? ⟨blk, off + 4, none⟩ = some (.int .u8 0) := hR 4 _ rfl
  have c5 : w4.cell? ⟨blk, off + 5, none⟩ = some (.int .u8 0) := hR 5 _ rfl
  have c6 : w4.cell? ⟨blk, off + 6, none⟩ = some (.int .u8 0) := hR 6 _ rfl
  have c7 : w4.cell? ⟨blk, off + 7, none⟩ = some (.int .u8 0) := hR 7 _ rfl
  have c8 : w4.cell? ⟨blk, off + 8, none⟩ = some (.int .u8 0) := hR 8 _ rfl
  have c9 : w4.cell? ⟨blk, off + 9, none⟩ = some (.int .u8 0) := hR 9 _ rfl
  have c10 : w4.cell? ⟨blk, off + 10, none⟩ = some (.int .u8 0) := hR 10 _ rfl
  have c11 : w4.cell? ⟨blk, off + 11, none⟩ = some (.int .u8 0) := hR 11 _ rfl
  have c12 : w4.cell? ⟨blk, off + 12, none⟩ = some (.int .u8 0) := hR 12 _ rfl
  have c13 : w4.cell? ⟨blk, off + 13, none⟩ = some (.int .u8 0) := hR 13 _ rfl
  have c14 : w4.cell? ⟨blk, off + 14, none⟩ = some (.int .u8 0) := hR 14 _ rfl
  have c15 : w4.cell? ⟨blk, off + 15, none⟩ = some (.int .u8 0) := hR 15 _ rfl
  rw [Nat.add_zero] at c0
  clear CP PN K3 K2 HA2 HB2 GA2 GB2 p4 t4
  have hc2 : (2 : Int) ≤ (cap : Int) := by have := HCAP.out; omega
  have q1 : ∀ w, Sem.run Try.prog (Op.equalIn 10000 24 (.agg #[.int .u8 1, .int .u8 0, .int .u8 0, .int .u8 0, .int .u8 0, .int .u8 0, .int .u8 0, .int .u8 0, .int .u8 0, .int .u8 0, .int .u8 0, .int .u8 0, .int .u8 0, .int .u8 0, .int .u8 0, .int .u8 0]) (.agg #[.int .u8 1, .int .u8 0, .int .u8 0, .int .u8 0, .int .u8 0, .int .u8 0, .int .u8 0, .int .u8 0, .int .u8 0, .int .u8 0, .int .u8 0, .int .u8 0, .int .u8 0, .int .u8 0, .int .u8 0, .int .u8 0])) w = .ok true w := fun w => by
    have h := run_mark_eqD 9998 (mN 1) (mN 1) rfl rfl w
    rw [decide_eq_true rfl] at h
    exact h
  have q3 : ∀ w, Sem.run Try.prog (Op.equalIn 10000 24 (.agg #[.int .u8 3, .int .u8 0, .int .u8 0, .int .u8 0, .int .u8 0, .int .u8 0, .int .u8 0, .int .u8 0, .int .u8 0, .int .u8 0, .int .u8 0, .int .u8 0, .int .u8 0, .int .u8 0, .int .u8 0, .int .u8 0]) (.agg #[.int .u8 3, .int .u8 0, .int .u8 0, .int .u8 0, .int .u8 0, .int .u8 0, .int .u8 0, .int .u8 0, .int .u8 0, .int .u8 0, .int .u8 0, .int .u8 0, .int .u8 0, .int .u8 0, .int .u8 0, .int .u8 0])) w = .ok true w := fun w => by
    have h := run_mark_eqD 9998 (mN 3) (mN 3) rfl rfl w
    rw [decide_eq_true rfl] at h
    exact h
  clear hR
  go_wp2_with fail
  clear c0 c1 c2 c3 c4 c5 c6 c7 c8 c9 c10 c11 c12 c13 c14 c15 hc2
  have C := mhas_any _ [mN 1, mN 2] (mN 2) w4 HF.out.ha O2.out (by simp)
  rw [FR.out, FH2.out, Bool.and_self] at C
  refine C.mono ?_
  rintro r w5 ⟨rfl, k5⟩
  have HF := hid (HF.out.step k5)
  clear C k5
  go_wp2_with fail
  have C := mhas_any _ [mN 1, mN 2] (mN 3) w5 HF.out.ha O3.out (by simp)
  rw [FR.out, FH3.out, Bool.and_false] at C
  refine C.mono ?_
  rintro r w6 ⟨rfl, k6⟩
  have HF := hid (HF.out.step k6)
  clear C k6
  go_wp2_with fail
  have C := munion_any _ _ _ _ w6 HF.out.ha HF.out.hb (by simp) (by simp) HF.out.la HF.out.lb
  rw [FU.out] at C
  refine C.mono ?_
  rintro r w7 ⟨v7, rfl, h7, -, k7⟩
  obtain ⟨y7, d7, e7⟩ := h7.shape
  have e7 : v7 = .slice y7 3 d7 := e7
  subst e7
  have HF := hid (HF.out.step k7)
  clear C k7 h7
  go_wp2_with fail
  have C := mminus_any _ _ _ _ w7 HF.out.ha HF.out.hb (by simp) (by simp) HF.out.la HF.out.lb
  rw [FM.out] at C
  refine C.mono ?_
  rintro r w8 ⟨v8, rfl, h8, -, k8⟩
  obtain ⟨y8, d8, e8⟩ := h8.shape
  have e8 : v8 = .slice y8 1 d8 := e8
  subst e8
  have HF := hid (HF.out.step k8)
  have H8 := hid h8
  clear C k8 h8
  go_wp2_with fail
  obtain ⟨X8, hX8⟩ : ∃ X, X = w8.alloc (.cells #[.int .u8 1, .int .u8 0, .int .u8 0, .int .u8 0, .int .u8 0, .int .u8 0, .int .u8 0, .int .u8 0, .int .u8 0, .int .u8 0, .int .u8 0, .int .u8 0, .int .u8 0, .int .u8 0, .int .u8 0, .int .u8 0] 24) := ⟨_, rfl⟩
  have KX : Kp Nb w8 X8 := by rw [hX8]; exact (Kp.refl Nb w8).alloc _
  have BX : MkSl X8 (.slice (some ⟨w8.heap.size, 0, none⟩) 1 1) [mN 1] := mk_blk (by rw [hX8, flatR_one]; exact Blk.new w8 24 (markL (mN 1))) (fun m hm => by rw [List.mem_singleton.1 hm]; exact O1.out) (by simp [maxLen])
  have C := msame_any _ _ [mN 1] [mN 1] X8 (H8.out.kept KX) BX (by simp) (by simp)
  rw [decide_eq_true rfl] at C
  have HF := hid (HF.out.step KX)
  rw [← hX8]
  refine C.mono ?_
  rintro r w9 ⟨rfl, kk⟩
  have HF := hid (HF.out.step kk)
  clear C kk KX BX hX8
  go_wp2_with fail
  have C := mmeet_any _ _ _ _ w9 HF.out.ha HF.out.hb (by simp) (by simp) HF.out.la HF.out.lb
  rw [FI.out] at C
  refine C.mono ?_
  rintro r w10 ⟨v10, rfl, h10, -, k10⟩
  obtain ⟨y10, d10, e10⟩ := h10.shape
  have e10 : v10 = .slice y10 1 d10 := e10
  subst e10
  have HF := hid (HF.out.step k10)
  have H10 := hid h10
  clear C k10 h10
  go_wp2_with fail
  obtain ⟨X10, hX10⟩ : ∃ X, X = w10.alloc (.cells #[.int .u8 2, .int .u8 0, .int .u8 0, .int .u8 0, .int .u8 0, .int .u8 0, .int .u8 0, .int .u8 0, .int .u8 0, .int .u8 0, .int .u8 0, .int .u8 0, .int .u8 0, .int .u8 0, .int .u8 0, .int .u8 0] 24) := ⟨_, rfl⟩
  have KX : Kp Nb w10 X10 := by rw [hX10]; exact (Kp.refl Nb w10).alloc _
  have BX : MkSl X10 (.slice (some ⟨w10.heap.size, 0, none⟩) 1 1) [mN 2] := mk_blk (by rw [hX10, flatR_one]; exact Blk.new w10 24 (markL (mN 2))) (fun m hm => by rw [List.mem_singleton.1 hm]; exact O2.out) (by simp [maxLen])
  have C := msame_any _ _ [mN 2] [mN 2] X10 (H10.out.kept KX) BX (by simp) (by simp)
  rw [decide_eq_true rfl] at C
  have HF := hid (HF.out.step KX)
  rw [← hX10]
  refine C.mono ?_
  rintro r w11 ⟨rfl, kk⟩
  have HF := hid (HF.out.step kk)
  clear C kk KX BX hX10
  go_wp2_with fail
  have C := mfold_any _ [mN 1, mN 2] w11 HF.out.ha (by simp)
  rw [FF.out] at C
  have C : Calls Try.prog 22 #[.slice (some ⟨blk, off, none⟩) 2 cap] w11 fun e w' => e = .returned (.agg #[.int .u8 3, .int .u8 0, .int .u8 0, .int .u8 0, .int .u8 0, .int .u8 0, .int .u8 0, .int .u8 0, .int .u8 0, .int .u8 0, .int .u8 0, .int .u8 0, .int .u8 0, .int .u8 0, .int .u8 0, .int .u8 0]) ∧ Kp Nb w11 w' := C
  refine C.mono ?_
  rintro r w12 ⟨rfl, k12⟩
  have HF := hid (HF.out.step k12)
  clear C k12
  go_wp2_with fail
  refine (pen_bytes P vP _ w12 HF.out.hp (by have := FL.out; omega)).mono ?_
  rintro r w13 ⟨rb, rfl, ow, k13⟩
  have BY : Hid (BySl Nb w13 rb (bytesM [mN 1, mN 2])) := hid (BySl.ofOwn ow HF.out.hp.bytes (fun _ _ _ h => h))
  have HF := hid (HF.out.step k13)
  obtain ⟨yr, dr, rfl⟩ := own_shape ow
  clear ow k13
  go_wp2_with fail
  refine (read_any _ _ w13 BY.out (by have := FL.out; omega)).mono ?_
  rintro r w14 ⟨Be, hBe, rfl, he, k14⟩
  have HEY := hid (EyeOn.of he w14.heap.size (Nat.le_refl _))
  have HBE := hid hBe
  have K14 := hid k14
  clear he k14 hBe
  go_wp2_with fail
  have C := mget_any Be (bytesM [mN 1, mN 2]) 0 w14 (S := fun i => i = Be ∨ w14.heap.size ≤ i) (fun i => Iff.rfl) HEY.out (by have := FL.out; omega) FN.out
  rw [FG.out] at C
  dsimp only at C
  refine C.mono ?_
  rintro r w15 ⟨v15, rfl, h15, -, -, k15⟩
  obtain ⟨y15, d15, e15⟩ := h15.shape
  have e15 : v15 = .slice y15 2 d15 := e15
  subst e15
  have HF := hid (HF.out.step (K14.out.trans (S' := Jb Be) k15 (fun i hi h => by have h' : i = Be := h; have := HBE.out; omega)))
  have H15 := hid h15
  clear C k15 h15
  go_wp2_with fail
  have C := msame_any _ _ [mN 1, mN 2] [mN 1, mN 2] w15 H15.out HF.out.ha (by simp) (by simp)
  rw [decide_eq_true rfl] at C
  refine C.mono ?_
  rintro r w16 ⟨rfl, k16⟩
  have HF := hid (HF.out.step k16)
  clear C k16
  go_wp2_with fail
  have C := cmpg_kp (mN 1) (mN 2) w16 O1.out O2.out
  rw [FC.out] at C
  refine C.mono ?_
  rintro r w17 ⟨rfl, k17⟩
  have HF := hid (HF.out.step k17)
  clear C k17
  go_wp2
  go_ret
  exact ⟨rfl, HF.out.k⟩

end Go.Proofs.Ytijlmfmpfjjlpaa
