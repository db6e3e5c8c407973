/-
  Layer 19: the walk of the reference's Read. Conditions: bytes; at most 100,000 of them.
  Layer 19: the law FrameReads. Conditions: bytes; ints.
  An argument opened: an int with its range. No condition.
  PROVED: 'FrameReadsSaid': whatever the frame, the bytes, the number, FrameReads returns true and the input reads as it did. No condition.
-/
import Derived.Test.YtmgmghlflldepaaPkX
import Derived.Test.YtmgmghlflldepaaRows
namespace Go.Proofs.Ytmgmghlflldepaa
open Go.RowKit Go.Shelf

theorem next_zero (zs : List Int) (h : (nextF zs).2.2.2 ≠ 0) : (nextF zs).1 = 0 ∧ (nextF zs).2.1 = [] := by
  unfold nextF at h ⊢
  split at h
  · exact absurd rfl h
  · rename_i h2
    rw [if_neg h2]
    exact ⟨rfl, rfl⟩
set_option maxRecDepth 100000 in
set_option maxHeartbeats 8000000 in
theorem rread_any (zs : List Int) (w : World) (hz : IsBytes zs) (hl : zs.length ≤ 100000) :
    Calls Try.prog 11 #[.string (st zs)] w fun e w' => ∃ b, e = .returned (.tuple #[frV (readF zs).1 b, .int .i64 (readF zs).2.2]) ∧ BySl Nb w' b (readF zs).2.1 ∧ Kp Nb w w' := by
  have HZE := hid (next_zero zs)
  obtain ⟨N, hN⟩ : ∃ N, nextF zs = N := ⟨_, rfl⟩
  have HRd : Hid (readF zs = if N.2.2.2 = 0 then (if N.2.2.1 < zs.length then (0, [], 13) else (N.1, N.2.1, 0)) else (0, [], N.2.2.2)) := hid (by unfold readF; rw [hN])
  have hsz := st_size zs
  obtain ⟨S, hS⟩ : ∃ s, st zs = s := ⟨_, rfl⟩
  rw [hS] at hsz ⊢
  obtain ⟨R0, hR0⟩ : ∃ N, N = w.heap.size := ⟨_, rfl⟩
  obtain ⟨W, hW⟩ : ∃ W, W = w.alloc (.cells (frL 0 (.slice none 0 0)).toArray 24) := ⟨_, rfl⟩
  have HR0 : Hid (Blk W R0 24 (frL 0 (.slice none 0 0))) := hid (by rw [hW, hR0]; exact Blk.new _ _ _)
  have K0 : Hid (Kp Nb w W) := hid (by rw [hW]; exact (Kp.refl Nb w).alloc _)
  have LR0 : Hid (w.heap.size ≤ R0) := hid (Nat.le_of_eq hR0.symm)
  have CN : Hid (Calls Try.prog 17 #[.string S] W fun e w' => ∃ b, e = .returned (.tuple #[frV N.1 b, .int .i64 N.2.2.1, .int .i64 N.2.2.2]) ∧ BySl Nb w' b N.2.1 ∧ Kp Nb W w') := hid (by
    rw [← hN, ← hS]
    exact rnext_any zs W hz hl)
  rw [hN] at HZE
  obtain ⟨L, hL⟩ : ∃ L, zs.length = L := ⟨_, rfl⟩
  rw [hL] at HRd hsz hl
  obtain ⟨k, bs, sz, er⟩ := N
  dsimp only at CN HRd HZE
  clear hz hN hL hS
  go_enter Try.func11, Try.ntmps11
  go_upto_region 1 with fail
  rw [show w.alloc (.cells #[.int .i64 0, .slice none 0 0] 24) = W from hW.symm, ← hR0]
  clear hW hR0
  go_wp2_with fail
  refine CN.out.mono ?_
  rintro e w2 ⟨b, rfl, b2, k2⟩
  obtain ⟨yb, db, rfl⟩ := b2.shp
  obtain ⟨R8, hR8⟩ : ∃ N, N = w2.heap.size := ⟨_, rfl⟩
  obtain ⟨W6, hW6⟩ : ∃ W, W = w2.alloc (.cells (frL k (.slice yb bs.length db)).toArray 24) := ⟨_, rfl⟩
  have k6 : Kp Nb w2 W6 := by rw [hW6]; exact (Kp.refl Nb w2).alloc _
  have H86 : Hid (Blk W6 R8 24 (frL k (.slice yb bs.length db))) := hid (by rw [hW6, hR8]; exact Blk.new _ _ _)
  have B6 := hid (b2.kept k6 (fun _ h => h))
  have HR6 := hid ((HR0.out.kept k2 (fun h => h)).kept k6 (fun h => h))
  have KN6 := hid ((K0.out.trans k2 (fun _ _ h => h)).trans k6 (fun _ _ h => h))
  have TH := hid (HR6.out.there 0 2 (Nat.le_refl _))
  clear k6 k2 b2 HR0 K0 CN
  go_upto_region 2 with fail
  rw [show w2.alloc (.cells #[.int .i64 k, .slice yb bs.length db] 24) = W6 from hW6.symm, ← hR8]
  clear hW6 hR8
  have c80 := H86.out.cell 0
  have c81 := H86.out.cell 1
  simp only [List.getElem?_cons_zero, List.getElem?_cons_succ] at c80 c81
  have H9 : Hid (Blk (W6.setCells R0 0 (frL k (.slice yb bs.length db))) R0 24 (frL k (.slice yb bs.length db))) := hid (row_set HR6.out rfl)
  have kR : Kp (Jb R0) W6 (W6.setCells R0 0 (frL k (.slice yb bs.length db))) := Kp.setCells (S := Jb R0) (fun _ => show R0 = R0 from rfl) _ _ _ (Kp.refl _ W6)
  have K9 : Hid (Kp Nb w (W6.setCells R0 0 (frL k (.slice yb bs.length db)))) := hid (KN6.out.trans kR (fun i hi h => by have h' : i = R0 := h; have := LR0.out; omega))
  have B9 : Hid (BySl Nb (W6.setCells R0 0 (frL k (.slice yb bs.length db))) (.slice yb bs.length db) bs) := hid (by_beside B6.out HR6.out (by intro z; simp) (by intro z; simp) kR)
  clear kR
  by_cases he : er = 0
  · have d1 : (er == 0) = true := by simpa using he
    by_cases hs : sz < (L : Int)
    · have RE : Hid (readF zs = (0, [], 13)) := hid (by rw [HRd.out, if_pos he, if_pos hs])
      have d2 : decide (sz < (L : Int)) = true := decide_eq_true hs
      have H9' : Hid (Blk (W6.setCells R0 0 (frL 0 (.slice none 0 0))) R0 24 (frL 0 (.slice none 0 0))) := hid (row_set HR6.out rfl)
      have K9' : Hid (Kp Nb w (W6.setCells R0 0 (frL 0 (.slice none 0 0)))) := hid (Kp.setCells (fun h => absurd h (Nat.not_lt.2 LR0.out)) _ _ _ KN6.out)
      clear he hs H9 K9 B9
      go_wp2_with (refine wpList_store_mid (by rfl) 24 (.tmp 2) (.tmp 21) (by rfl) R0 0 (frL 0 (.slice none 0 0)).toArray (by rfl) (by rfl) TH.out fr_info (all_oneCell_toArray (frL_one _ _)) ?_)
      refine bodyPost_ret (results_ct rfl _ R0 (by rfl) (frV 0 (.slice none 0 0)) (fr_loadVar H9'.out)) rfl ?_
      refine ⟨.slice none 0 0, ?_, ?_, K9'.out⟩
      · rw [RE.out]; rfl
      · rw [RE.out]; exact BySl.none _
    · have RE : Hid (readF zs = (k, bs, 0)) := hid (by rw [HRd.out, if_pos he, if_neg hs])
      have d2 : decide (sz < (L : Int)) = false := decide_eq_false hs
      subst he
      clear hs
      go_wp2_with (refine wpList_store_mid (by rfl) 24 (.tmp 2) (.tmp 22) (by rfl) R0 0 (frL k (.slice yb bs.length db)).toArray (by rfl) (by rfl) TH.out fr_info (all_oneCell_toArray (frL_one _ _)) ?_)
      refine bodyPost_ret (results_ct rfl _ R0 (by rfl) (frV k (.slice yb bs.length db)) (fr_loadVar H9.out)) rfl ?_
      refine ⟨.slice yb bs.length db, ?_, ?_, K9.out⟩
      · rw [RE.out]; rfl
      · rw [RE.out]; exact B9.out
  · have RE : Hid (readF zs = (k, bs, er)) := hid (by obtain ⟨h1, h2⟩ := HZE.out he; rw [HRd.out, if_neg he, h1, h2])
    have d1 : (er == 0) = false := by simpa using he
    clear he
    go_wp2_with (refine wpList_store_mid (by rfl) 24 (.tmp 2) (.tmp 22) (by rfl) R0 0 (frL k (.slice yb bs.length db)).toArray (by rfl) (by rfl) TH.out fr_info (all_oneCell_toArray (frL_one _ _)) ?_)
    refine bodyPost_ret (results_ct rfl _ R0 (by rfl) (frV k (.slice yb bs.length db)) (fr_loadVar H9.out)) rfl ?_
    refine ⟨.slice yb bs.length db, ?_, ?_, K9.out⟩
    · rw [RE.out]; rfl
    · rw [RE.out]; exact B9.out

end Go.Proofs.Ytmgmghlflldepaa

namespace Go.Proofs.Ytmgmghlflldepaa
open Go.RowKit Go.Shelf
attribute [local go_sem] Oper.semAt_some

theorem byte_zc : ∃ i z, Try.prog.info? 5 = some i ∧ i.zero = some z ∧ i.size = 1 ∧ i.bytes = 1 ∧ z.cells = #[.int .u8 0] := by
  have h : ((Try.prog.info? 5).map fun i => (i.zero.map fun z => z.cells, i.size, i.bytes)) = some (some #[.int .u8 0], 1, 1) := by kernel_rfl
  obtain ⟨i, hi, h2⟩ := Option.map_eq_some_iff.1 h
  simp only [Prod.mk.injEq] at h2
  obtain ⟨z, hz, hz2⟩ := Option.map_eq_some_iff.1 h2.1
  exact ⟨i, z, hi, hz, h2.2.1, h2.2.2, hz2⟩
theorem made_bytes (n : Nat) : (madeCells #[Value.int .u8 0] (n * 1)).toList = List.replicate n (Value.int .u8 0) := by
  apply List.ext_getElem?
  intro j
  rcases Nat.lt_or_ge j n with h | h
  · rw [List.getElem?_replicate, if_pos h, Array.getElem?_toList]
    unfold madeCells
    rw [Array.getElem?_map, Array.getElem?_range, if_pos (by omega), Option.map_some]
    simp [Nat.mod_one]
  · rw [List.getElem?_eq_none (by rw [Array.length_toList, size_madeCells]; omega), List.getElem?_eq_none (by rw [List.length_replicate]; exact h)]
theorem make_bytes (w : World) (n : Nat) (hn : n ≤ 2048) : (Instr.makeSlice 22 (.int .i64 (n : Int)) (.int .i64 (n : Int))).run Try.prog w = .ok (.slice (some ⟨w.heap.size, 0, none⟩) n n) (w.alloc (.cells (List.replicate n (Value.int .u8 0)).toArray 5 (0, 0))) := by
  obtain ⟨i, z, h1, h2, h3, h4, h5⟩ := byte_zc
  have h := run_make (P := Try.prog) w _ _ i z Try.underlying22 h1 h2 .i64 .i64 n n (by omega) (Int.le_refl _) (by rw [h4]; omega) (by omega)
  rw [Int.toNat_natCast, h3, h5, ← Array.toArray_toList (xs := madeCells _ _), made_bytes] at h
  exact h
theorem by_zeros (w : World) (n : Nat) (hn : n ≤ 2048) : BySl Nb (w.alloc (.cells (List.replicate n (Value.int .u8 0)).toArray 5 (0, 0))) (.slice (some ⟨w.heap.size, 0, none⟩) n n) (List.replicate n 0) := by
  have hB := Blk.new w 5 (List.replicate n (Value.int .u8 0))
  refine ⟨IsBytes.zeros n, .inr ⟨_, 0, n, by rw [List.length_replicate], by rw [List.length_replicate]; exact Nat.le_refl _, by unfold maxLen; omega, fun i hi => ?_, fun _ h => h⟩⟩
  rw [List.length_replicate] at hi
  rw [Nat.zero_add, hB.cell i, List.getElem?_replicate, if_pos hi, List.getElem?_replicate, if_pos hi]
  rfl
theorem exec_mkslice {P : Program} {ev : Operand → Value} {o : Oper} {T : TypeId} {x y : Operand} {v v2 r : Value} {w w' : World} (ho : o.op = .makeSlice T x y) (hx : ev x = v) (hy : ev y = v2) (hl : (Instr.makeSlice T v v2).run P w = .ok r w') : (execOp ev o).run P w = .ok (.value r) w' := by
  unfold execOp
  simp only [ho, hx, hy, Sem.run_bind, Sem.run_pure, Result.andThen_ok, hl]
structure RzS (W : World) (FB : List Int) (bs : List Bool) (g : Value) (w : World) : Prop where
  kp : Kp Nb W w
  by' : bs[0]?.getD false = true → BySl Nb w g FB
theorem RzS.keptN {W w w' : World} {FB : List Int} {bs : List Bool} {g : Value} (h : RzS W FB bs g w) (k : Kp Nb w w') : RzS W FB bs g w' := ⟨h.kp.trans k (fun _ _ h => h), fun e => (h.by' e).kept k (fun _ h => h)⟩

set_option maxRecDepth 100000 in
set_option maxHeartbeats 32000000 in
theorem freads_any (k n : Int) (vf vb : Value) (zs bz : List Int) (w : World) (hf : BySl Nb w vf zs) (hb : BySl Nb w vb bz) (NRng : -9223372036854775808 ≤ n ∧ n < 9223372036854775808) :
    Calls Try.prog 3 #[frV k vf, vb, .int .i64 n] w fun e w' => e = .returned (.bool true) ∧ Kp Nb w w' := by
  obtain ⟨yf, df, rfl⟩ := hf.shp
  obtain ⟨yb, db, rfl⟩ := hb.shp
  obtain ⟨L, hL⟩ : ∃ L, zs.length = L := ⟨_, rfl⟩
  obtain ⟨Lb, hLb⟩ : ∃ L, bz.length = L := ⟨_, rfl⟩
  rw [hL] at hf ⊢
  rw [hLb] at hb ⊢
  have HL := hid hL
  have HLb := hid hLb
  have NR := hid NRng
  obtain ⟨D, hD⟩ : ∃ D, w.heap.size = D := ⟨_, rfl⟩
  obtain ⟨W, hW⟩ : ∃ W, W = w.alloc (.cells (frL k (.slice yf L df)).toArray 24) := ⟨_, rfl⟩
  have H0 : Hid (Blk W D 24 (frL k (.slice yf L df))) := hid (by rw [hW, ← hD]; exact Blk.new w _ _)
  have k0 : Kp Nb w W := by rw [hW]; exact (Kp.refl Nb w).alloc _
  have K0 := hid k0
  have HF0 := hid (hf.kept k0 (fun _ h => h))
  have HB0 := hid (hb.kept k0 (fun _ h => h))
  clear hf hb hL hLb k0 NRng
  go_enter Try.func3, Try.ntmps3
  go_upto_region 1 with fail
  rw [show w.alloc (.cells #[.int .i64 k, .slice yf L df] 24) = W from hW.symm]
  clear hW hD
  go_wp2_with fail
  refine (ffirst_any _).mono ?_
  rintro e w1 ⟨rfl, k1⟩
  have Q2 := hid (H0.out.kept k1 (fun h => h))
  have HF1 := hid (HF0.out.kept k1 (fun _ h => h))
  have HB2 := hid (HB0.out.kept k1 (fun _ h => h))
  have K1 := hid (K0.out.trans k1 (fun _ _ h => h))
  clear k1 H0 HF0 HB0 K0
  have p0 := Q2.out.cell 0
  have p1 := Q2.out.cell 1
  simp only [List.getElem?_cons_zero, List.getElem?_cons_succ] at p0 p1
  by_cases hl1 : 2100 < L
  · have d1 : decide ((L : Int) > 2100) = true := decide_eq_true (by omega)
    go_wp2
    go_ret
    exact ⟨rfl, K1.out⟩
  have d1 : decide ((L : Int) > 2100) = false := decide_eq_false (by omega)
  by_cases hl2 : 3000 < Lb
  · have d2 : decide ((Lb : Int) > 3000) = true := decide_eq_true (by omega)
    go_wp2
    go_ret
    exact ⟨rfl, K1.out⟩
  have d2 : decide ((Lb : Int) > 3000) = false := decide_eq_false (by omega)
  have hLb3 : Lb ≤ 3000 := by omega
  obtain ⟨b, hbr⟩ : ∃ b, rightF k L = b := ⟨_, rfl⟩
  obtain ⟨CO, hCO⟩ : ∃ c, costF n = c := ⟨_, rfl⟩
  have HCOST := hid hCO
  have CC : Hid (∀ w, Calls Try.prog 15 #[.int .i64 n] w fun e w' => e = .returned (.int .i64 CO) ∧ w = w') := hid (fun w => by rw [← hCO]; exact fcost_any n w)
  have CR : Hid (∀ w, Calls Try.prog 12 #[frV k (.slice yf L df)] w fun e w' => e = .returned (.bool b) ∧ Kp Nb w w') := hid (fun w => by rw [← hbr]; exact fright_any k yf L df w)
  have CRR : Hid (∀ w, Calls Try.prog 8 #[frV k (.slice yf L df)] w fun e w' => e = .returned (.bool b) ∧ Kp Nb w w') := hid (fun w => by rw [← hbr]; exact rfright_any k yf L df w)
  obtain ⟨rr, hrr⟩ : ∃ r, readF bz = r := ⟨_, rfl⟩
  obtain ⟨ka, body, E⟩ := rr
  obtain ⟨n9, hn9⟩ : ∃ n, body.length = n := ⟨_, rfl⟩
  have CRD : Hid (∀ w, BySl Nb w (.slice yb Lb db) bz → Calls Try.prog 10 #[.slice yb Lb db] w fun e w' => ∃ y d, e = .returned (.tuple #[frV ka (.slice y n9 d), .int .i64 E]) ∧ BySl Nb w' (.slice y n9 d) body ∧ Kp Nb w w') := hid (fun w hv => by
    have h := fread_any _ bz w hv (by rw [HLb.out]; omega)
    rw [hrr] at h
    refine h.mono ?_
    rintro e w' ⟨b, rfl, hb, hk⟩
    obtain ⟨y, d, rfl⟩ := hb.shp
    rw [hn9] at hb ⊢
    exact ⟨y, d, rfl, hb, hk⟩)
  obtain ⟨SB, hSB⟩ : ∃ s, st bz = s := ⟨_, rfl⟩
  have HSB := hid hSB
  have CRR2 : Hid (∀ w, Calls Try.prog 11 #[.string SB] w fun e w' => ∃ y d, e = .returned (.tuple #[frV ka (.slice y n9 d), .int .i64 E]) ∧ BySl Nb w' (.slice y n9 d) body ∧ Kp Nb w w') := hid (fun w => by
    have h := rread_any bz w HB2.out.1 (by rw [HLb.out]; omega)
    rw [hrr, hSB] at h
    refine h.mono ?_
    rintro e w' ⟨b, rfl, hb, hk⟩
    obtain ⟨y, d, rfl⟩ := hb.shp
    rw [hn9] at hb ⊢
    exact ⟨y, d, rfl, hb, hk⟩)
  have CS : Hid (∀ u v wq, BySl Nb wq u body → BySl Nb wq v body → Calls Try.prog 14 #[frV ka u, frV ka v] wq fun e w' => e = .returned (.bool true) ∧ Kp Nb wq w') := hid (fun u v wq h1 h2 => by
    have h := fsame_any ka ka u v body body wq h1 h2
    rw [show sameF ka ka body body = true from by simp [sameF]] at h
    exact h)
  obtain ⟨FB, hFB⟩ : ∃ f, (if b = true then frameF k zs else []) = f := ⟨_, rfl⟩
  obtain ⟨WS, hWS⟩ : ∃ s, st FB = s := ⟨_, rfl⟩
  have CPU : Hid (∀ w, BySl Nb w (.slice yf L df) zs → Calls Try.prog 13 #[frV k (.slice yf L df)] w fun e w' => ∃ r, e = .returned r ∧ BySl Nb w' r FB ∧ Kp Nb w w') := hid (fun w hv => by
    cases b
    · have h := fput_no k _ zs w hv (by rw [HL.out]; exact hbr)
      refine h.mono ?_
      rintro e w' ⟨rfl, hk⟩
      refine ⟨_, rfl, ?_, hk⟩
      rw [← hFB, if_neg (by decide)]
      exact BySl.none _
    · have hr : rightF k zs.length = true := by rw [HL.out]; exact hbr
      have h := fput_yes k _ zs w hv hr
      refine h.mono ?_
      rintro e w' ⟨r, rfl, ow, hk⟩
      refine ⟨_, rfl, ?_, hk⟩
      rw [← hFB, if_pos rfl]
      exact BySl.ofOwn ow (frame_bytes k zs hv.1 hr) (fun _ _ _ h => h))
  have CVW : Hid (∀ w v, BySl Nb w v FB → (convert 22 9 v).run Try.prog w = .ok (.string WS) w) := hid (fun w v h => by rw [← hWS]; exact conv_any h)
  have EQW : Hid ((WS.toList == WS.toList) = true) := hid (beq_self_eq_true _)
  have HWS : Hid (b = true → st (frameF k zs) = WS) := hid (fun h => by rw [← hWS, ← hFB, if_pos h])
  have HWN : Hid (b = false → (⟨#[]⟩ : ByteArray) = WS) := hid (fun h => by rw [← hWS, ← hFB, h, if_neg (by decide)]; rfl)
  have HBR := hid hbr
  clear hCO hrr hn9 hSB hFB hWS hbr hl1 hl2
  go_wp2_with fail
  refine (CRR.out _).mono ?_
  rintro e w2 ⟨rfl, k2⟩
  have KQ2 := hid k2
  have Q3 := hid (Q2.out.kept k2 (fun h => h))
  clear k2 p0 p1 d1 d2
  cases b
  · have ew := HWN.out rfl
    subst ew
    have KQ0 := KQ2
    obtain ⟨WQ, hWQ⟩ : ∃ W, W = w2 := ⟨_, rfl⟩
    rw [← hWQ] at KQ0 ⊢
    clear hWQ
    have g1 := NR.out
    by_cases hnr : 0 ≤ n ∧ n ≤ 2048
    · obtain ⟨nn, rfl⟩ : ∃ m : Nat, n = (m : Int) := ⟨n.toNat, by omega⟩
      have hn2 : nn ≤ 2048 := by omega
      have c1 : decide ((nn : Int) ≥ 0) = true := decide_eq_true (by omega)
      have c2 : decide ((nn : Int) ≤ 2048) = true := decide_eq_true (by omega)
      have HM := make_bytes
      obtain ⟨zs0, hzs⟩ : ∃ z, List.replicate nn (0 : Int) = z := ⟨_, rfl⟩
      have CBY : Hid (∀ v w, BySl Nb w v zs0 → Calls Try.prog 9 #[frV 1 v] w fun e w' => e = .returned (.string (st (frameF 1 zs0))) ∧ Kp Nb w w') := hid (fun v w hv => rbytes_any 1 v zs0 w hv (by rw [← hzs, List.length_replicate]; unfold rightF; exact decide_eq_true (by omega)))
      have HCO : Hid ((((st (frameF 1 zs0)).size : Nat) : Int) = CO) := hid (by
        rw [st_size, frame_length 1 zs0 (by rw [← hzs, List.length_replicate]; unfold rightF; exact decide_eq_true (by omega)), ← hzs, List.length_replicate]
        exact HCOST.out)
      have BMK : Hid (∀ w : World, BySl Nb (w.alloc (.cells (List.replicate nn (Value.int .u8 0)).toArray 5 (0, 0))) (.slice (some ⟨w.heap.size, 0, none⟩) nn nn) zs0) := hid (fun w => by rw [← hzs]; exact by_zeros w nn hn2)
      have HMK := HM WQ nn hn2
      obtain ⟨SN, hSN⟩ : ∃ s, st (frameF 1 zs0) = s := ⟨_, rfl⟩
      rw [hSN] at CBY HCO
      have BW := BMK.out WQ
      have kW := (Kp.refl Nb WQ).alloc (.cells (List.replicate nn (Value.int .u8 0)).toArray 5 (0, 0))
      obtain ⟨WW, hWW⟩ : ∃ W, W = WQ.alloc (.cells (List.replicate nn (Value.int .u8 0)).toArray 5 (0, 0)) := ⟨_, rfl⟩
      rw [← hWW] at HMK BW kW
      have BWH := hid BW
      have KWH := hid kW
      have HMKH := hid HMK
      obtain ⟨bl, hbl⟩ : ∃ N, WQ.heap.size = N := ⟨_, rfl⟩
      rw [hbl] at BWH HMKH
      clear hnr hSN hzs HM BMK BW kW HMK hWW hbl
      go_wp2_with (refine wpList_val (by rfl) _ _ (exec_mkslice rfl rfl rfl HMKH.out) ?_)
      refine (CBY.out _ _ BWH.out).mono ?_
      rintro e wk ⟨rfl, kk0⟩
      have KQ := hid ((KQ0.out.trans KWH.out (fun _ _ h => h)).trans kk0 (fun _ _ h => h))
      have eco := HCO.out
      clear kk0 BWH KWH HMKH KQ0
      have HBq := hid (HB2.out.kept KQ.out (fun _ h => h))
      go_wp2_with fail
      refine (CRD.out _ HBq.out).mono ?_
      rintro e w9 ⟨y9, d9, rfl, hb9, k9⟩
      obtain ⟨M9, hM9⟩ : ∃ N, w9.heap.size = N := ⟨_, rfl⟩
      obtain ⟨W9, hW9⟩ : ∃ W, W = w9.alloc (.cells (frL ka (.slice y9 n9 d9)).toArray 24) := ⟨_, rfl⟩
      have ka9 : Kp Nb w9 W9 := by rw [hW9]; exact (Kp.refl Nb w9).alloc _
      have BM9 : Hid (Blk W9 M9 24 (frL ka (.slice y9 n9 d9))) := hid (by rw [hW9, ← hM9]; exact Blk.new w9 _ _)
      have YM9 := hid (hb9.kept ka9 (fun _ h => h))
      have kk := k9.trans ka9 (fun _ _ h => h)
      have KQ9 := hid (KQ.out.trans kk (fun _ _ h => h))
      have HB9 := hid (HBq.out.kept kk (fun _ h => h))
      have hcv : (convert 22 9 (.slice yb Lb db)).run Try.prog W9 = .ok (.string SB) W9 := by rw [← HSB.out]; exact conv_any HB9.out
      clear k9 ka9 hb9 kk KQ HBq
      go_upto_region 11 with fail
      rw [show w9.alloc (.cells #[.int .i64 ka, .slice y9 n9 d9] 24) = W9 from hW9.symm]
      clear hW9 hM9
      go_wp2_with (refine wpList_val (by rfl) _ _ (exec_convert rfl rfl hcv) ?_)
      refine (CRR2.out _).mono ?_
      rintro e w11 ⟨y11, d11, rfl, hb11, k11⟩
      obtain ⟨M11, hM11⟩ : ∃ N, w11.heap.size = N := ⟨_, rfl⟩
      obtain ⟨w12, hW11⟩ : ∃ W, W = w11.alloc (.cells (frL ka (.slice y11 n9 d11)).toArray 24) := ⟨_, rfl⟩
      have ka11 : Kp Nb w11 w12 := by rw [hW11]; exact (Kp.refl Nb w11).alloc _
      have kk := k11.trans ka11 (fun _ _ h => h)
      have B11 : Hid (Blk w12 M11 24 (frL ka (.slice y11 n9 d11))) := hid (by rw [hW11, ← hM11]; exact Blk.new w11 _ _)
      have Y11 := hid (hb11.kept ka11 (fun _ h => h))
      have B9 := hid (BM9.out.kept kk (fun h => h))
      have Y9 := hid (YM9.out.kept kk (fun _ h => h))
      have KQ12 := hid (KQ9.out.trans kk (fun _ _ h => h))
      have Q0 := hid (Q2.out.kept KQ12.out (fun h => h))
      have HF2 := hid (HF1.out.kept KQ12.out (fun _ h => h))
      have K12 := hid (K1.out.trans KQ12.out (fun _ _ h => h))
      clear k11 ka11 hb11 kk BM9 YM9 KQ9 HB9 hcv
      go_upto_region 12 with fail
      rw [show w11.alloc (.cells #[.int .i64 ka, .slice y11 n9 d11] 24) = w12 from hW11.symm]
      clear hW11 hM11
      refine region_ghost (g0 := (undef : Value)) [none, none, none, none, none, none, some 28, none, none, none, none, none, none, none, none, none, none, none, none, none, none, none, none, none, none, none, none, none, none, none, none, none, none, none, none, none, none, none, none, none, none, none, none, none, none, none, none, none, none, none, some 0, some 1, some 2, some 3, some 4, some 5, some 6, some 7, some 8, some 9, some 10, some 11, some 12, some 13, some 14, some 15, some 16, some 17, some 18, some 19, some 20, some 21, some 22, some 23, some 24, some 25, some 26, some 27] [[(3, none)], [(50, some 0)], [(3, none)], [(52, some 2)], [(51, some 1), (53, some 3)], [(54, some 4)], [(3, none)], [(56, some 6)], [(57, some 7)], [(7, none)], [(58, some 8), (59, some 9)], [(55, some 5), (60, some 10)], [(61, some 11)], [(10, none)], [(12, none)], [(63, some 13), (64, some 14)], [(62, some 12), (65, some 15)], [(66, some 16)], [(9, none)], [(11, none)], [(68, some 18), (69, some 19)], [(67, some 17), (70, some 20)], [(71, some 21)], [(2, none)], [(73, some 23)], [(8, none)], [(74, some 24), (75, some 25)], [(72, some 22), (76, some 26)], [(77, some 27)]] [some 50, some 51, some 52, some 53, some 54, some 55, some 56, some 57, some 58, some 59, some 60, some 61, some 62, some 63, some 64, some 65, some 66, some 67, some 68, some 69, some 70, some 71, some 72, some 73, some 74, some 75, some 76, some 77, some 6] (fun g => [frV k (.slice yf L df), .bool false, frV k (.slice yf L df), .bool false, .bool true, .bool true, frV k (.slice yf L df), g, .string (⟨#[]⟩ : ByteArray), .string (⟨#[]⟩ : ByteArray), .bool true, .bool true, .bool true, .int .i64 E, .int .i64 E, .bool true, .bool true, .bool true, frV ka (.slice y9 n9 d9), frV ka (.slice y11 n9 d11), .bool true, .bool true, .bool true, .int .i64 (nn : Int), .int .i64 CO, .int .i64 CO, .bool true, .bool true, .bool true]) [7] (fun bs g wq => Hid (RzS w12 FB bs g wq)) (by kernel_rfl) (by kernel_rfl) (fun g => by kernel_rfl) (by kernel_rfl) ?hS (GFrom.all (n := 29) (by kernel_rfl) ?hstep) ?hend
      case hstep =>
        refine GFrom.cons (GStep.val _ rfl rfl _ rfl (fun g => frV k (.slice yf L df)) (fun _ => rfl) (fun _ => trivial) (fun bs g ev wq hS he hr => ?_)) ?_
        · have r0 : ev (.tmp 3) = .pointer (some ⟨D, 0, none⟩) := hr (3, none) (by simp); have hk := he.1; clear hr he
          exact exec_load rfl r0 (fr_load (Q0.out.kept hS.out.kp (fun h => h)))
        refine GFrom.cons (GStep.call _ rfl rfl _ rfl (fun g => .bool false) (fun _ => rfl) (fun _ => trivial) 12 (fun g => #[frV k (.slice yf L df)]) (fun bs g ev wq hS he hr => ?_) (fun L g wq hd hL hS => ?_)) ?_
        · have r0 : ev (.tmp 50) = frV k (.slice yf L df) := hr (50, some 0) (by simp); have hk := he.1; have hf := he.2; clear hr he
          go_simp
        · exact (CR.out wq).mono fun e w' ⟨h1, h2⟩ => ⟨h1, hid (hS.out.keptN h2)⟩
        refine GFrom.cons (GStep.val _ rfl rfl _ rfl (fun g => frV k (.slice yf L df)) (fun _ => rfl) (fun _ => trivial) (fun bs g ev wq hS he hr => ?_)) ?_
        · have r0 : ev (.tmp 3) = .pointer (some ⟨D, 0, none⟩) := hr (3, none) (by simp); have hk := he.1; clear hr he
          exact exec_load rfl r0 (fr_load (Q0.out.kept hS.out.kp (fun h => h)))
        refine GFrom.cons (GStep.call _ rfl rfl _ rfl (fun g => .bool false) (fun _ => rfl) (fun _ => trivial) 8 (fun g => #[frV k (.slice yf L df)]) (fun bs g ev wq hS he hr => ?_) (fun L g wq hd hL hS => ?_)) ?_
        · have r0 : ev (.tmp 52) = frV k (.slice yf L df) := hr (52, some 2) (by simp); have hk := he.1; have hf := he.2; clear hr he
          go_simp
        · exact (CRR.out wq).mono fun e w' ⟨h1, h2⟩ => ⟨h1, hid (hS.out.keptN h2)⟩
        refine GFrom.cons (GStep.val _ rfl rfl _ rfl (fun g => .bool true) (fun _ => rfl) (fun _ => trivial) (fun bs g ev wq hS he hr => ?_)) ?_
        · have r0 : ev (.tmp 51) = .bool false := hr (51, some 1) (by simp); have r1 : ev (.tmp 53) = .bool false := hr (53, some 3) (by simp); have hk := he.1; clear hr he
          go_simp
        refine GFrom.cons (GStep.val _ rfl rfl _ rfl (fun g => .bool true) (fun _ => rfl) (fun _ => trivial) (fun bs g ev wq hS he hr => ?_)) ?_
        · have r0 : ev (.tmp 54) = .bool true := hr (54, some 4) (by simp); have hk := he.1; clear hr he
          go_simp
        refine GFrom.cons (GStep.val _ rfl rfl _ rfl (fun g => frV k (.slice yf L df)) (fun _ => rfl) (fun _ => rfl) (fun bs g ev wq hS he hr => ?_)) ?_
        · have r0 : ev (.tmp 3) = .pointer (some ⟨D, 0, none⟩) := hr (3, none) (by simp); have hk := he.1; clear hr he
          exact exec_load rfl r0 (fr_load (Q0.out.kept hS.out.kp (fun h => h)))
        refine GFrom.cons (GStep.callm _ rfl _ rfl (fun _ => rfl) 13 (fun g => #[frV k (.slice yf L df)]) (fun bs g ev wq hS he hr => ?_) (fun Lx g wq hL hd hcl hS => ?_)) ?_
        · have r0 : ev (.tmp 56) = frV k (.slice yf L df) := hr (56, some 6) (by simp); have hk := he.1; have hf := he.2; clear hr he
          go_simp
        · refine (CPU.out wq (HF2.out.kept hS.out.kp (fun _ h => h))).mono ?_
          rintro e w' ⟨r, rfl, hb, kn⟩
          have e2 : bitsAt [7] (upd Lx 7) = [true] := by simp [bitsAt, upd]
          refine ⟨r, r, rfl, rfl, old_setF _ hL rfl, ?_⟩
          rw [e2]
          exact hid ⟨hS.out.kp.trans kn (fun _ _ h => h), fun _ => hb⟩
        refine GFrom.cons (GStep.make _ rfl _ rfl (fun _ => rfl) (fun Lx g ev wq hL hd hcl hS he hr => ?_)) ?_
        · have r0 : ev (.tmp 57) = g := hr (57, some 7) (by simp); clear hr he
          have l7 : Lx 7 = true := hd 7 (by kernel_rfl)
          have e : bitsAt [7] Lx = [true] := by simp [bitsAt, l7]
          have e2 : bitsAt [7] (upd Lx 8) = [true] := by simp [bitsAt, upd, l7]
          rw [e] at hS
          exact ⟨.string (⟨#[]⟩ : ByteArray), _, _, exec_convert rfl r0 (CVW.out wq _ (hS.out.by' rfl)), rfl, old_setF _ hL rfl, by rw [e2]; exact hS⟩
        refine GFrom.cons (GStep.val _ rfl rfl _ rfl (fun g => .string (⟨#[]⟩ : ByteArray)) (fun _ => rfl) (fun _ => rfl) (fun bs g ev wq hS he hr => ?_)) ?_
        · have r0 : ev (.tmp 7) = .string (⟨#[]⟩ : ByteArray) := hr (7, none) (by simp); have hk := he.1; clear hr he
          go_simp
        refine GFrom.cons (GStep.val _ rfl rfl _ rfl (fun g => .bool true) (fun _ => rfl) (fun _ => rfl) (fun bs g ev wq hS he hr => ?_)) ?_
        · have r0 : ev (.tmp 58) = .string (⟨#[]⟩ : ByteArray) := hr (58, some 8) (by simp); have r1 : ev (.tmp 59) = .string (⟨#[]⟩ : ByteArray) := hr (59, some 9) (by simp); have hk := he.1; clear hr he
          have e1 := EQW.out
          go_simp
        refine GFrom.cons (GStep.val _ rfl rfl _ rfl (fun g => .bool true) (fun _ => rfl) (fun _ => trivial) (fun bs g ev wq hS he hr => ?_)) ?_
        · have r0 : ev (.tmp 55) = .bool true := hr (55, some 5) (by simp); have r1 : ev (.tmp 60) = .bool true := hr (60, some 10) (by simp); have hk := he.1; clear hr he
          go_simp
        refine GFrom.cons (GStep.val _ rfl rfl _ rfl (fun g => .bool true) (fun _ => rfl) (fun _ => trivial) (fun bs g ev wq hS he hr => ?_)) ?_
        · have r0 : ev (.tmp 61) = .bool true := hr (61, some 11) (by simp); have hk := he.1; clear hr he
          go_simp
        refine GFrom.cons (GStep.val _ rfl rfl _ rfl (fun g => .int .i64 E) (fun _ => rfl) (fun _ => rfl) (fun bs g ev wq hS he hr => ?_)) ?_
        · have r0 : ev (.tmp 10) = .int .i64 E := hr (10, none) (by simp); have hk := he.1; clear hr he
          go_simp
        refine GFrom.cons (GStep.val _ rfl rfl _ rfl (fun g => .int .i64 E) (fun _ => rfl) (fun _ => rfl) (fun bs g ev wq hS he hr => ?_)) ?_
        · have r0 : ev (.tmp 12) = .int .i64 E := hr (12, none) (by simp); have hk := he.1; clear hr he
          go_simp
        refine GFrom.cons (GStep.val _ rfl rfl _ rfl (fun g => .bool true) (fun _ => rfl) (fun _ => rfl) (fun bs g ev wq hS he hr => ?_)) ?_
        · have r0 : ev (.tmp 63) = .int .i64 E := hr (63, some 13) (by simp); have r1 : ev (.tmp 64) = .int .i64 E := hr (64, some 14) (by simp); have hk := he.1; clear hr he
          go_simp
        refine GFrom.cons (GStep.val _ rfl rfl _ rfl (fun g => .bool true) (fun _ => rfl) (fun _ => trivial) (fun bs g ev wq hS he hr => ?_)) ?_
        · have r0 : ev (.tmp 62) = .bool true := hr (62, some 12) (by simp); have r1 : ev (.tmp 65) = .bool true := hr (65, some 15) (by simp); have hk := he.1; clear hr he
          go_simp
        refine GFrom.cons (GStep.val _ rfl rfl _ rfl (fun g => .bool true) (fun _ => rfl) (fun _ => trivial) (fun bs g ev wq hS he hr => ?_)) ?_
        · have r0 : ev (.tmp 66) = .bool true := hr (66, some 16) (by simp); have hk := he.1; clear hr he
          go_simp
        refine GFrom.cons (GStep.val _ rfl rfl _ rfl (fun g => frV ka (.slice y9 n9 d9)) (fun _ => rfl) (fun _ => rfl) (fun bs g ev wq hS he hr => ?_)) ?_
        · have r0 : ev (.tmp 9) = .pointer (some ⟨M9, 0, none⟩) := hr (9, none) (by simp); have hk := he.1; clear hr he
          exact exec_load rfl r0 (fr_load (B9.out.kept hS.out.kp (fun h => h)))
        refine GFrom.cons (GStep.val _ rfl rfl _ rfl (fun g => frV ka (.slice y11 n9 d11)) (fun _ => rfl) (fun _ => rfl) (fun bs g ev wq hS he hr => ?_)) ?_
        · have r0 : ev (.tmp 11) = .pointer (some ⟨M11, 0, none⟩) := hr (11, none) (by simp); have hk := he.1; clear hr he
          exact exec_load rfl r0 (fr_load (B11.out.kept hS.out.kp (fun h => h)))
        refine GFrom.cons (GStep.call _ rfl rfl _ rfl (fun g => .bool true) (fun _ => rfl) (fun _ => rfl) 14 (fun g => #[frV ka (.slice y9 n9 d9), frV ka (.slice y11 n9 d11)]) (fun bs g ev wq hS he hr => ?_) (fun L g wq hd hL hS => ?_)) ?_
        · have r0 : ev (.tmp 68) = frV ka (.slice y9 n9 d9) := hr (68, some 18) (by simp); have r1 : ev (.tmp 69) = frV ka (.slice y11 n9 d11) := hr (69, some 19) (by simp); have hk := he.1; have hf := he.2; clear hr he
          go_simp
        · exact (CS.out _ _ wq (Y9.out.kept hS.out.kp (fun _ h => h)) (Y11.out.kept hS.out.kp (fun _ h => h))).mono fun e w' ⟨h1, h2⟩ => ⟨h1, hid (hS.out.keptN h2)⟩
        refine GFrom.cons (GStep.val _ rfl rfl _ rfl (fun g => .bool true) (fun _ => rfl) (fun _ => trivial) (fun bs g ev wq hS he hr => ?_)) ?_
        · have r0 : ev (.tmp 67) = .bool true := hr (67, some 17) (by simp); have r1 : ev (.tmp 70) = .bool true := hr (70, some 20) (by simp); have hk := he.1; clear hr he
          go_simp
        refine GFrom.cons (GStep.val _ rfl rfl _ rfl (fun g => .bool true) (fun _ => rfl) (fun _ => trivial) (fun bs g ev wq hS he hr => ?_)) ?_
        · have r0 : ev (.tmp 71) = .bool true := hr (71, some 21) (by simp); have hk := he.1; clear hr he
          go_simp
        refine GFrom.cons (GStep.val _ rfl rfl _ rfl (fun g => .int .i64 (nn : Int)) (fun _ => rfl) (fun _ => rfl) (fun bs g ev wq hS he hr => ?_)) ?_
        · have r0 : ev (.tmp 2) = .int .i64 (nn : Int) := hr (2, none) (by simp); have hk := he.1; clear hr he
          go_simp
        refine GFrom.cons (GStep.call _ rfl rfl _ rfl (fun g => .int .i64 CO) (fun _ => rfl) (fun _ => rfl) 15 (fun g => #[.int .i64 (nn : Int)]) (fun bs g ev wq hS he hr => ?_) (fun L g wq hd hL hS => ?_)) ?_
        · have r0 : ev (.tmp 73) = .int .i64 (nn : Int) := hr (73, some 23) (by simp); have hk := he.1; have hf := he.2; clear hr he
          go_simp
        · exact (CC.out wq).mono fun e w' ⟨h1, h2⟩ => ⟨h1, by rw [← h2]; exact hS⟩
        refine GFrom.cons (GStep.val _ rfl rfl _ rfl (fun g => .int .i64 CO) (fun _ => rfl) (fun _ => rfl) (fun bs g ev wq hS he hr => ?_)) ?_
        · have r0 : ev (.tmp 8) = .int .i64 CO := hr (8, none) (by simp); have hk := he.1; clear hr he
          go_simp
        refine GFrom.cons (GStep.val _ rfl rfl _ rfl (fun g => .bool true) (fun _ => rfl) (fun _ => rfl) (fun bs g ev wq hS he hr => ?_)) ?_
        · have r0 : ev (.tmp 74) = .int .i64 CO := hr (74, some 24) (by simp); have r1 : ev (.tmp 75) = .int .i64 CO := hr (75, some 25) (by simp); have hk := he.1; clear hr he
          go_simp
        refine GFrom.cons (GStep.val _ rfl rfl _ rfl (fun g => .bool true) (fun _ => rfl) (fun _ => trivial) (fun bs g ev wq hS he hr => ?_)) ?_
        · have r0 : ev (.tmp 72) = .bool true := hr (72, some 22) (by simp); have r1 : ev (.tmp 76) = .bool true := hr (76, some 26) (by simp); have hk := he.1; clear hr he
          go_simp
        refine GFrom.cons (GStep.val _ rfl rfl _ rfl (fun g => .bool true) (fun _ => rfl) (fun _ => trivial) (fun bs g ev wq hS he hr => ?_)) ?_
        · have r0 : ev (.tmp 77) = .bool true := hr (77, some 27) (by simp); have hk := he.1; clear hr he
          go_simp
        exact GFrom.nil
      case hS => exact hid ⟨(Kp.refl Nb w12).drew, fun h => by simp at h⟩
      case hend =>
        intro g wy hy
        have K9 := hid (K12.out.trans hy.out.kp (fun _ _ h => h))
        clear hy
        simp only [putAll, List.zip_cons_cons, List.zip_nil_right, List.foldl_cons, List.foldl_nil, Act.put, List.setIfInBounds_toArray, List.set_cons_zero, List.set_cons_succ]
        go_wp2
        go_ret
        exact ⟨rfl, K9.out⟩
    · have eco : CO = 0 := by rw [← HCOST.out]; unfold costF; rw [if_neg hnr]
      subst eco
      have KQ := KQ0
      rcases (show n < 0 ∨ (0 ≤ n ∧ 2048 < n) by omega) with h1 | ⟨h1, h2⟩
      · have c1 : decide (n ≥ 0) = false := decide_eq_false (by omega)
        clear hnr h1
        have HBq := hid (HB2.out.kept KQ.out (fun _ h => h))
        go_wp2_with fail
        refine (CRD.out _ HBq.out).mono ?_
        rintro e w9 ⟨y9, d9, rfl, hb9, k9⟩
        obtain ⟨M9, hM9⟩ : ∃ N, w9.heap.size = N := ⟨_, rfl⟩
        obtain ⟨W9, hW9⟩ : ∃ W, W = w9.alloc (.cells (frL ka (.slice y9 n9 d9)).toArray 24) := ⟨_, rfl⟩
        have ka9 : Kp Nb w9 W9 := by rw [hW9]; exact (Kp.refl Nb w9).alloc _
        have BM9 : Hid (Blk W9 M9 24 (frL ka (.slice y9 n9 d9))) := hid (by rw [hW9, ← hM9]; exact Blk.new w9 _ _)
        have YM9 := hid (hb9.kept ka9 (fun _ h => h))
        have kk := k9.trans ka9 (fun _ _ h => h)
        have KQ9 := hid (KQ.out.trans kk (fun _ _ h => h))
        have HB9 := hid (HBq.out.kept kk (fun _ h => h))
        have hcv : (convert 22 9 (.slice yb Lb db)).run Try.prog W9 = .ok (.string SB) W9 := by rw [← HSB.out]; exact conv_any HB9.out
        clear k9 ka9 hb9 kk KQ HBq
        go_upto_region 11 with fail
        rw [show w9.alloc (.cells #[.int .i64 ka, .slice y9 n9 d9] 24) = W9 from hW9.symm]
        clear hW9 hM9
        go_wp2_with (refine wpList_val (by rfl) _ _ (exec_convert rfl rfl hcv) ?_)
        refine (CRR2.out _).mono ?_
        rintro e w11 ⟨y11, d11, rfl, hb11, k11⟩
        obtain ⟨M11, hM11⟩ : ∃ N, w11.heap.size = N := ⟨_, rfl⟩
        obtain ⟨w12, hW11⟩ : ∃ W, W = w11.alloc (.cells (frL ka (.slice y11 n9 d11)).toArray 24) := ⟨_, rfl⟩
        have ka11 : Kp Nb w11 w12 := by rw [hW11]; exact (Kp.refl Nb w11).alloc _
        have kk := k11.trans ka11 (fun _ _ h => h)
        have B11 : Hid (Blk w12 M11 24 (frL ka (.slice y11 n9 d11))) := hid (by rw [hW11, ← hM11]; exact Blk.new w11 _ _)
        have Y11 := hid (hb11.kept ka11 (fun _ h => h))
        have B9 := hid (BM9.out.kept kk (fun h => h))
        have Y9 := hid (YM9.out.kept kk (fun _ h => h))
        have KQ12 := hid (KQ9.out.trans kk (fun _ _ h => h))
        have Q0 := hid (Q2.out.kept KQ12.out (fun h => h))
        have HF2 := hid (HF1.out.kept KQ12.out (fun _ h => h))
        have K12 := hid (K1.out.trans KQ12.out (fun _ _ h => h))
        clear k11 ka11 hb11 kk BM9 YM9 KQ9 HB9 hcv
        go_upto_region 12 with fail
        rw [show w11.alloc (.cells #[.int .i64 ka, .slice y11 n9 d11] 24) = w12 from hW11.symm]
        clear hW11 hM11
        refine region_ghost (g0 := (undef : Value)) [none, none, none, none, none, none, some 28, none, none, none, none, none, none, none, none, none, none, none, none, none, none, none, none, none, none, none, none, none, none, none, none, none, none, none, none, none, none, none, none, none, none, none, none, none, none, none, none, none, none, none, some 0, some 1, some 2, some 3, some 4, some 5, some 6, some 7, some 8, some 9, some 10, some 11, some 12, some 13, some 14, some 15, some 16, some 17, some 18, some 19, some 20, some 21, some 22, some 23, some 24, some 25, some 26, some 27] [[(3, none)], [(50, some 0)], [(3, none)], [(52, some 2)], [(51, some 1), (53, some 3)], [(54, some 4)], [(3, none)], [(56, some 6)], [(57, some 7)], [(7, none)], [(58, some 8), (59, some 9)], [(55, some 5), (60, some 10)], [(61, some 11)], [(10, none)], [(12, none)], [(63, some 13), (64, some 14)], [(62, some 12), (65, some 15)], [(66, some 16)], [(9, none)], [(11, none)], [(68, some 18), (69, some 19)], [(67, some 17), (70, some 20)], [(71, some 21)], [(2, none)], [(73, some 23)], [(8, none)], [(74, some 24), (75, some 25)], [(72, some 22), (76, some 26)], [(77, some 27)]] [some 50, some 51, some 52, some 53, some 54, some 55, some 56, some 57, some 58, some 59, some 60, some 61, some 62, some 63, some 64, some 65, some 66, some 67, some 68, some 69, some 70, some 71, some 72, some 73, some 74, some 75, some 76, some 77, some 6] (fun g => [frV k (.slice yf L df), .bool false, frV k (.slice yf L df), .bool false, .bool true, .bool true, frV k (.slice yf L df), g, .string (⟨#[]⟩ : ByteArray), .string (⟨#[]⟩ : ByteArray), .bool true, .bool true, .bool true, .int .i64 E, .int .i64 E, .bool true, .bool true, .bool true, frV ka (.slice y9 n9 d9), frV ka (.slice y11 n9 d11), .bool true, .bool true, .bool true, .int .i64 n, .int .i64 0, .int .i64 0, .bool true, .bool true, .bool true]) [7] (fun bs g wq => Hid (RzS w12 FB bs g wq)) (by kernel_rfl) (by kernel_rfl) (fun g => by kernel_rfl) (by kernel_rfl) ?hS (GFrom.all (n := 29) (by kernel_rfl) ?hstep) ?hend
        case hstep =>
          refine GFrom.cons (GStep.val _ rfl rfl _ rfl (fun g => frV k (.slice yf L df)) (fun _ => rfl) (fun _ => trivial) (fun bs g ev wq hS he hr => ?_)) ?_
          · have r0 : ev (.tmp 3) = .pointer (some ⟨D, 0, none⟩) := hr (3, none) (by simp); have hk := he.1; clear hr he
            exact exec_load rfl r0 (fr_load (Q0.out.kept hS.out.kp (fun h => h)))
          refine GFrom.cons (GStep.call _ rfl rfl _ rfl (fun g => .bool false) (fun _ => rfl) (fun _ => trivial) 12 (fun g => #[frV k (.slice yf L df)]) (fun bs g ev wq hS he hr => ?_) (fun L g wq hd hL hS => ?_)) ?_
          · have r0 : ev (.tmp 50) = frV k (.slice yf L df) := hr (50, some 0) (by simp); have hk := he.1; have hf := he.2; clear hr he
            go_simp
          · exact (CR.out wq).mono fun e w' ⟨h1, h2⟩ => ⟨h1, hid (hS.out.keptN h2)⟩
          refine GFrom.cons (GStep.val _ rfl rfl _ rfl (fun g => frV k (.slice yf L df)) (fun _ => rfl) (fun _ => trivial) (fun bs g ev wq hS he hr => ?_)) ?_
          · have r0 : ev (.tmp 3) = .pointer (some ⟨D, 0, none⟩) := hr (3, none) (by simp); have hk := he.1; clear hr he
            exact exec_load rfl r0 (fr_load (Q0.out.kept hS.out.kp (fun h => h)))
          refine GFrom.cons (GStep.call _ rfl rfl _ rfl (fun g => .bool false) (fun _ => rfl) (fun _ => trivial) 8 (fun g => #[frV k (.slice yf L df)]) (fun bs g ev wq hS he hr => ?_) (fun L g wq hd hL hS => ?_)) ?_
          · have r0 : ev (.tmp 52) = frV k (.slice yf L df) := hr (52, some 2) (by simp); have hk := he.1; have hf := he.2; clear hr he
            go_simp
          · exact (CRR.out wq).mono fun e w' ⟨h1, h2⟩ => ⟨h1, hid (hS.out.keptN h2)⟩
          refine GFrom.cons (GStep.val _ rfl rfl _ rfl (fun g => .bool true) (fun _ => rfl) (fun _ => trivial) (fun bs g ev wq hS he hr => ?_)) ?_
          · have r0 : ev (.tmp 51) = .bool false := hr (51, some 1) (by simp); have r1 : ev (.tmp 53) = .bool false := hr (53, some 3) (by simp); have hk := he.1; clear hr he
            go_simp
          refine GFrom.cons (GStep.val _ rfl rfl _ rfl (fun g => .bool true) (fun _ => rfl) (fun _ => trivial) (fun bs g ev wq hS he hr => ?_)) ?_
          · have r0 : ev (.tmp 54) = .bool true := hr (54, some 4) (by simp); have hk := he.1; clear hr he
            go_simp
          refine GFrom.cons (GStep.val _ rfl rfl _ rfl (fun g => frV k (.slice yf L df)) (fun _ => rfl) (fun _ => rfl) (fun bs g ev wq hS he hr => ?_)) ?_
          · have r0 : ev (.tmp 3) = .pointer (some ⟨D, 0, none⟩) := hr (3, none) (by simp); have hk := he.1; clear hr he
            exact exec_load rfl r0 (fr_load (Q0.out.kept hS.out.kp (fun h => h)))
          refine GFrom.cons (GStep.callm _ rfl _ rfl (fun _ => rfl) 13 (fun g => #[frV k (.slice yf L df)]) (fun bs g ev wq hS he hr => ?_) (fun Lx g wq hL hd hcl hS => ?_)) ?_
          · have r0 : ev (.tmp 56) = frV k (.slice yf L df) := hr (56, some 6) (by simp); have hk := he.1; have hf := he.2; clear hr he
            go_simp
          · refine (CPU.out wq (HF2.out.kept hS.out.kp (fun _ h => h))).mono ?_
            rintro e w' ⟨r, rfl, hb, kn⟩
            have e2 : bitsAt [7] (upd Lx 7) = [true] := by simp [bitsAt, upd]
            refine ⟨r, r, rfl, rfl, old_setF _ hL rfl, ?_⟩
            rw [e2]
            exact hid ⟨hS.out.kp.trans kn (fun _ _ h => h), fun _ => hb⟩
          refine GFrom.cons (GStep.make _ rfl _ rfl (fun _ => rfl) (fun Lx g ev wq hL hd hcl hS he hr => ?_)) ?_
          · have r0 : ev (.tmp 57) = g := hr (57, some 7) (by simp); clear hr he
            have l7 : Lx 7 = true := hd 7 (by kernel_rfl)
            have e : bitsAt [7] Lx = [true] := by simp [bitsAt, l7]
            have e2 : bitsAt [7] (upd Lx 8) = [true] := by simp [bitsAt, upd, l7]
            rw [e] at hS
            exact ⟨.string (⟨#[]⟩ : ByteArray), _, _, exec_convert rfl r0 (CVW.out wq _ (hS.out.by' rfl)), rfl, old_setF _ hL rfl, by rw [e2]; exact hS⟩
          refine GFrom.cons (GStep.val _ rfl rfl _ rfl (fun g => .string (⟨#[]⟩ : ByteArray)) (fun _ => rfl) (fun _ => rfl) (fun bs g ev wq hS he hr => ?_)) ?_
          · have r0 : ev (.tmp 7) = .string (⟨#[]⟩ : ByteArray) := hr (7, none) (by simp); have hk := he.1; clear hr he
            go_simp
          refine GFrom.cons (GStep.val _ rfl rfl _ rfl (fun g => .bool true) (fun _ => rfl) (fun _ => rfl) (fun bs g ev wq hS he hr => ?_)) ?_
          · have r0 : ev (.tmp 58) = .string (⟨#[]⟩ : ByteArray) := hr (58, some 8) (by simp); have r1 : ev (.tmp 59) = .string (⟨#[]⟩ : ByteArray) := hr (59, some 9) (by simp); have hk := he.1; clear hr he
            have e1 := EQW.out
            go_simp
          refine GFrom.cons (GStep.val _ rfl rfl _ rfl (fun g => .bool true) (fun _ => rfl) (fun _ => trivial) (fun bs g ev wq hS he hr => ?_)) ?_
          · have r0 : ev (.tmp 55) = .bool true := hr (55, some 5) (by simp); have r1 : ev (.tmp 60) = .bool true := hr (60, some 10) (by simp); have hk := he.1; clear hr he
            go_simp
          refine GFrom.cons (GStep.val _ rfl rfl _ rfl (fun g => .bool true) (fun _ => rfl) (fun _ => trivial) (fun bs g ev wq hS he hr => ?_)) ?_
          · have r0 : ev (.tmp 61) = .bool true := hr (61, some 11) (by simp); have hk := he.1; clear hr he
            go_simp
          refine GFrom.cons (GStep.val _ rfl rfl _ rfl (fun g => .int .i64 E) (fun _ => rfl) (fun _ => rfl) (fun bs g ev wq hS he hr => ?_)) ?_
          · have r0 : ev (.tmp 10) = .int .i64 E := hr (10, none) (by simp); have hk := he.1; clear hr he
            go_simp
          refine GFrom.cons (GStep.val _ rfl rfl _ rfl (fun g => .int .i64 E) (fun _ => rfl) (fun _ => rfl) (fun bs g ev wq hS he hr => ?_)) ?_
          · have r0 : ev (.tmp 12) = .int .i64 E := hr (12, none) (by simp); have hk := he.1; clear hr he
            go_simp
          refine GFrom.cons (GStep.val _ rfl rfl _ rfl (fun g => .bool true) (fun _ => rfl) (fun _ => rfl) (fun bs g ev wq hS he hr => ?_)) ?_
          · have r0 : ev (.tmp 63) = .int .i64 E := hr (63, some 13) (by simp); have r1 : ev (.tmp 64) = .int .i64 E := hr (64, some 14) (by simp); have hk := he.1; clear hr he
            go_simp
          refine GFrom.cons (GStep.val _ rfl rfl _ rfl (fun g => .bool true) (fun _ => rfl) (fun _ => trivial) (fun bs g ev wq hS he hr => ?_)) ?_
          · have r0 : ev (.tmp 62) = .bool true := hr (62, some 12) (by simp); have r1 : ev (.tmp 65) = .bool true := hr (65, some 15) (by simp); have hk := he.1; clear hr he
            go_simp
          refine GFrom.cons (GStep.val _ rfl rfl _ rfl (fun g => .bool true) (fun _ => rfl) (fun _ => trivial) (fun bs g ev wq hS he hr => ?_)) ?_
          · have r0 : ev (.tmp 66) = .bool true := hr (66, some 16) (by simp); have hk := he.1; clear hr he
            go_simp
          refine GFrom.cons (GStep.val _ rfl rfl _ rfl (fun g => frV ka (.slice y9 n9 d9)) (fun _ => rfl) (fun _ => rfl) (fun bs g ev wq hS he hr => ?_)) ?_
          · have r0 : ev (.tmp 9) = .pointer (some ⟨M9, 0, none⟩) := hr (9, none) (by simp); have hk := he.1; clear hr he
            exact exec_load rfl r0 (fr_load (B9.out.kept hS.out.kp (fun h => h)))
          refine GFrom.cons (GStep.val _ rfl rfl _ rfl (fun g => frV ka (.slice y11 n9 d11)) (fun _ => rfl) (fun _ => rfl) (fun bs g ev wq hS he hr => ?_)) ?_
          · have r0 : ev (.tmp 11) = .pointer (some ⟨M11, 0, none⟩) := hr (11, none) (by simp); have hk := he.1; clear hr he
            exact exec_load rfl r0 (fr_load (B11.out.kept hS.out.kp (fun h => h)))
          refine GFrom.cons (GStep.call _ rfl rfl _ rfl (fun g => .bool true) (fun _ => rfl) (fun _ => rfl) 14 (fun g => #[frV ka (.slice y9 n9 d9), frV ka (.slice y11 n9 d11)]) (fun bs g ev wq hS he hr => ?_) (fun L g wq hd hL hS => ?_)) ?_
          · have r0 : ev (.tmp 68) = frV ka (.slice y9 n9 d9) := hr (68, some 18) (by simp); have r1 : ev (.tmp 69) = frV ka (.slice y11 n9 d11) := hr (69, some 19) (by simp); have hk := he.1; have hf := he.2; clear hr he
            go_simp
          · exact (CS.out _ _ wq (Y9.out.kept hS.out.kp (fun _ h => h)) (Y11.out.kept hS.out.kp (fun _ h => h))).mono fun e w' ⟨h1, h2⟩ => ⟨h1, hid (hS.out.keptN h2)⟩
          refine GFrom.cons (GStep.val _ rfl rfl _ rfl (fun g => .bool true) (fun _ => rfl) (fun _ => trivial) (fun bs g ev wq hS he hr => ?_)) ?_
          · have r0 : ev (.tmp 67) = .bool true := hr (67, some 17) (by simp); have r1 : ev (.tmp 70) = .bool true := hr (70, some 20) (by simp); have hk := he.1; clear hr he
            go_simp
          refine GFrom.cons (GStep.val _ rfl rfl _ rfl (fun g => .bool true) (fun _ => rfl) (fun _ => trivial) (fun bs g ev wq hS he hr => ?_)) ?_
          · have r0 : ev (.tmp 71) = .bool true := hr (71, some 21) (by simp); have hk := he.1; clear hr he
            go_simp
          refine GFrom.cons (GStep.val _ rfl rfl _ rfl (fun g => .int .i64 n) (fun _ => rfl) (fun _ => rfl) (fun bs g ev wq hS he hr => ?_)) ?_
          · have r0 : ev (.tmp 2) = .int .i64 n := hr (2, none) (by simp); have hk := he.1; clear hr he
            go_simp
          refine GFrom.cons (GStep.call _ rfl rfl _ rfl (fun g => .int .i64 0) (fun _ => rfl) (fun _ => rfl) 15 (fun g => #[.int .i64 n]) (fun bs g ev wq hS he hr => ?_) (fun L g wq hd hL hS => ?_)) ?_
          · have r0 : ev (.tmp 73) = .int .i64 n := hr (73, some 23) (by simp); have hk := he.1; have hf := he.2; clear hr he
            go_simp
          · exact (CC.out wq).mono fun e w' ⟨h1, h2⟩ => ⟨h1, by rw [← h2]; exact hS⟩
          refine GFrom.cons (GStep.val _ rfl rfl _ rfl (fun g => .int .i64 0) (fun _ => rfl) (fun _ => rfl) (fun bs g ev wq hS he hr => ?_)) ?_
          · have r0 : ev (.tmp 8) = .int .i64 0 := hr (8, none) (by simp); have hk := he.1; clear hr he
            go_simp
          refine GFrom.cons (GStep.val _ rfl rfl _ rfl (fun g => .bool true) (fun _ => rfl) (fun _ => rfl) (fun bs g ev wq hS he hr => ?_)) ?_
          · have r0 : ev (.tmp 74) = .int .i64 0 := hr (74, some 24) (by simp); have r1 : ev (.tmp 75) = .int .i64 0 := hr (75, some 25) (by simp); have hk := he.1; clear hr he
            go_simp
          refine GFrom.cons (GStep.val _ rfl rfl _ rfl (fun g => .bool true) (fun _ => rfl) (fun _ => trivial) (fun bs g ev wq hS he hr => ?_)) ?_
          · have r0 : ev (.tmp 72) = .bool true := hr (72, some 22) (by simp); have r1 : ev (.tmp 76) = .bool true := hr (76, some 26) (by simp); have hk := he.1; clear hr he
            go_simp
          refine GFrom.cons (GStep.val _ rfl rfl _ rfl (fun g => .bool true) (fun _ => rfl) (fun _ => trivial) (fun bs g ev wq hS he hr => ?_)) ?_
          · have r0 : ev (.tmp 77) = .bool true := hr (77, some 27) (by simp); have hk := he.1; clear hr he
            go_simp
          exact GFrom.nil
        case hS => exact hid ⟨(Kp.refl Nb w12).drew, fun h => by simp at h⟩
        case hend =>
          intro g wy hy
          have K9 := hid (K12.out.trans hy.out.kp (fun _ _ h => h))
          clear hy
          simp only [putAll, List.zip_cons_cons, List.zip_nil_right, List.foldl_cons, List.foldl_nil, Act.put, List.setIfInBounds_toArray, List.set_cons_zero, List.set_cons_succ]
          go_wp2
          go_ret
          exact ⟨rfl, K9.out⟩
      · have c1 : decide (n ≥ 0) = true := decide_eq_true (by omega)
        have c2 : decide (n ≤ 2048) = false := decide_eq_false (by omega)
        clear hnr h1 h2
        have HBq := hid (HB2.out.kept KQ.out (fun _ h => h))
        go_wp2_with fail
        refine (CRD.out _ HBq.out).mono ?_
        rintro e w9 ⟨y9, d9, rfl, hb9, k9⟩
        obtain ⟨M9, hM9⟩ : ∃ N, w9.heap.size = N := ⟨_, rfl⟩
        obtain ⟨W9, hW9⟩ : ∃ W, W = w9.alloc (.cells (frL ka (.slice y9 n9 d9)).toArray 24) := ⟨_, rfl⟩
        have ka9 : Kp Nb w9 W9 := by rw [hW9]; exact (Kp.refl Nb w9).alloc _
        have BM9 : Hid (Blk W9 M9 24 (frL ka (.slice y9 n9 d9))) := hid (by rw [hW9, ← hM9]; exact Blk.new w9 _ _)
        have YM9 := hid (hb9.kept ka9 (fun _ h => h))
        have kk := k9.trans ka9 (fun _ _ h => h)
        have KQ9 := hid (KQ.out.trans kk (fun _ _ h => h))
        have HB9 := hid (HBq.out.kept kk (fun _ h => h))
        have hcv : (convert 22 9 (.slice yb Lb db)).run Try.prog W9 = .ok (.string SB) W9 := by rw [← HSB.out]; exact conv_any HB9.out
        clear k9 ka9 hb9 kk KQ HBq
        go_upto_region 11 with fail
        rw [show w9.alloc (.cells #[.int .i64 ka, .slice y9 n9 d9] 24) = W9 from hW9.symm]
        clear hW9 hM9
        go_wp2_with (refine wpList_val (by rfl) _ _ (exec_convert rfl rfl hcv) ?_)
        refine (CRR2.out _).mono ?_
        rintro e w11 ⟨y11, d11, rfl, hb11, k11⟩
        obtain ⟨M11, hM11⟩ : ∃ N, w11.heap.size = N := ⟨_, rfl⟩
        obtain ⟨w12, hW11⟩ : ∃ W, W = w11.alloc (.cells (frL ka (.slice y11 n9 d11)).toArray 24) := ⟨_, rfl⟩
        have ka11 : Kp Nb w11 w12 := by rw [hW11]; exact (Kp.refl Nb w11).alloc _
        have kk := k11.trans ka11 (fun _ _ h => h)
        have B11 : Hid (Blk w12 M11 24 (frL ka (.slice y11 n9 d11))) := hid (by rw [hW11, ← hM11]; exact Blk.new w11 _ _)
        have Y11 := hid (hb11.kept ka11 (fun _ h => h))
        have B9 := hid (BM9.out.kept kk (fun h => h))
        have Y9 := hid (YM9.out.kept kk (fun _ h => h))
        have KQ12 := hid (KQ9.out.trans kk (fun _ _ h => h))
        have Q0 := hid (Q2.out.kept KQ12.out (fun h => h))
        have HF2 := hid (HF1.out.kept KQ12.out (fun _ h => h))
        have K12 := hid (K1.out.trans KQ12.out (fun _ _ h => h))
        clear k11 ka11 hb11 kk BM9 YM9 KQ9 HB9 hcv
        go_upto_region 12 with fail
        rw [show w11.alloc (.cells #[.int .i64 ka, .slice y11 n9 d11] 24) = w12 from hW11.symm]
        clear hW11 hM11
        refine region_ghost (g0 := (undef : Value)) [none, none, none, none, none, none, some 28, none, none, none, none, none, none, none, none, none, none, none, none, none, none, none, none, none, none, none, none, none, none, none, none, none, none, none, none, none, none, none, none, none, none, none, none, none, none, none, none, none, none, none, some 0, some 1, some 2, some 3, some 4, some 5, some 6, some 7, some 8, some 9, some 10, some 11, some 12, some 13, some 14, some 15, some 16, some 17, some 18, some 19, some 20, some 21, some 22, some 23, some 24, some 25, some 26, some 27] [[(3, none)], [(50, some 0)], [(3, none)], [(52, some 2)], [(51, some 1), (53, some 3)], [(54, some 4)], [(3, none)], [(56, some 6)], [(57, some 7)], [(7, none)], [(58, some 8), (59, some 9)], [(55, some 5), (60, some 10)], [(61, some 11)], [(10, none)], [(12, none)], [(63, some 13), (64, some 14)], [(62, some 12), (65, some 15)], [(66, some 16)], [(9, none)], [(11, none)], [(68, some 18), (69, some 19)], [(67, some 17), (70, some 20)], [(71, some 21)], [(2, none)], [(73, some 23)], [(8, none)], [(74, some 24), (75, some 25)], [(72, some 22), (76, some 26)], [(77, some 27)]] [some 50, some 51, some 52, some 53, some 54, some 55, some 56, some 57, some 58, some 59, some 60, some 61, some 62, some 63, some 64, some 65, some 66, some 67, some 68, some 69, some 70, some 71, some 72, some 73, some 74, some 75, some 76, some 77, some 6] (fun g => [frV k (.slice yf L df), .bool false, frV k (.slice yf L df), .bool false, .bool true, .bool true, frV k (.slice yf L df), g, .string (⟨#[]⟩ : ByteArray), .string (⟨#[]⟩ : ByteArray), .bool true, .bool true, .bool true, .int .i64 E, .int .i64 E, .bool true, .bool true, .bool true, frV ka (.slice y9 n9 d9), frV ka (.slice y11 n9 d11), .bool true, .bool true, .bool true, .int .i64 n, .int .i64 0, .int .i64 0, .bool true, .bool true, .bool true]) [7] (fun bs g wq => Hid (RzS w12 FB bs g wq)) (by kernel_rfl) (by kernel_rfl) (fun g => by kernel_rfl) (by kernel_rfl) ?hS (GFrom.all (n := 29) (by kernel_rfl) ?hstep) ?hend
        case hstep =>
          refine GFrom.cons (GStep.val _ rfl rfl _ rfl (fun g => frV k (.slice yf L df)) (fun _ => rfl) (fun _ => trivial) (fun bs g ev wq hS he hr => ?_)) ?_
          · have r0 : ev (.tmp 3) = .pointer (some ⟨D, 0, none⟩) := hr (3, none) (by simp); have hk := he.1; clear hr he
            exact exec_load rfl r0 (fr_load (Q0.out.kept hS.out.kp (fun h => h)))
          refine GFrom.cons (GStep.call _ rfl rfl _ rfl (fun g => .bool false) (fun _ => rfl) (fun _ => trivial) 12 (fun g => #[frV k (.slice yf L df)]) (fun bs g ev wq hS he hr => ?_) (fun L g wq hd hL hS => ?_)) ?_
          · have r0 : ev (.tmp 50) = frV k (.slice yf L df) := hr (50, some 0) (by simp); have hk := he.1; have hf := he.2; clear hr he
            go_simp
          · exact (CR.out wq).mono fun e w' ⟨h1, h2⟩ => ⟨h1, hid (hS.out.keptN h2)⟩
          refine GFrom.cons (GStep.val _ rfl rfl _ rfl (fun g => frV k (.slice yf L df)) (fun _ => rfl) (fun _ => trivial) (fun bs g ev wq hS he hr => ?_)) ?_
          · have r0 : ev (.tmp 3) = .pointer (some ⟨D, 0, none⟩) := hr (3, none) (by simp); have hk := he.1; clear hr he
            exact exec_load rfl r0 (fr_load (Q0.out.kept hS.out.kp (fun h => h)))
          refine GFrom.cons (GStep.call _ rfl rfl _ rfl (fun g => .bool false) (fun _ => rfl) (fun _ => trivial) 8 (fun g => #[frV k (.slice yf L df)]) (fun bs g ev wq hS he hr => ?_) (fun L g wq hd hL hS => ?_)) ?_
          · have r0 : ev (.tmp 52) = frV k (.slice yf L df) := hr (52, some 2) (by simp); have hk := he.1; have hf := he.2; clear hr he
            go_simp
          · exact (CRR.out wq).mono fun e w' ⟨h1, h2⟩ => ⟨h1, hid (hS.out.keptN h2)⟩
          refine GFrom.cons (GStep.val _ rfl rfl _ rfl (fun g => .bool true) (fun _ => rfl) (fun _ => trivial) (fun bs g ev wq hS he hr => ?_)) ?_
          · have r0 : ev (.tmp 51) = .bool false := hr (51, some 1) (by simp); have r1 : ev (.tmp 53) = .bool false := hr (53, some 3) (by simp); have hk := he.1; clear hr he
            go_simp
          refine GFrom.cons (GStep.val _ rfl rfl _ rfl (fun g => .bool true) (fun _ => rfl) (fun _ => trivial) (fun bs g ev wq hS he hr => ?_)) ?_
          · have r0 : ev (.tmp 54) = .bool true := hr (54, some 4) (by simp); have hk := he.1; clear hr he
            go_simp
          refine GFrom.cons (GStep.val _ rfl rfl _ rfl (fun g => frV k (.slice yf L df)) (fun _ => rfl) (fun _ => rfl) (fun bs g ev wq hS he hr => ?_)) ?_
          · have r0 : ev (.tmp 3) = .pointer (some ⟨D, 0, none⟩) := hr (3, none) (by simp); have hk := he.1; clear hr he
            exact exec_load rfl r0 (fr_load (Q0.out.kept hS.out.kp (fun h => h)))
          refine GFrom.cons (GStep.callm _ rfl _ rfl (fun _ => rfl) 13 (fun g => #[frV k (.slice yf L df)]) (fun bs g ev wq hS he hr => ?_) (fun Lx g wq hL hd hcl hS => ?_)) ?_
          · have r0 : ev (.tmp 56) = frV k (.slice yf L df) := hr (56, some 6) (by simp); have hk := he.1; have hf := he.2; clear hr he
            go_simp
          · refine (CPU.out wq (HF2.out.kept hS.out.kp (fun _ h => h))).mono ?_
            rintro e w' ⟨r, rfl, hb, kn⟩
            have e2 : bitsAt [7] (upd Lx 7) = [true] := by simp [bitsAt, upd]
            refine ⟨r, r, rfl, rfl, old_setF _ hL rfl, ?_⟩
            rw [e2]
            exact hid ⟨hS.out.kp.trans kn (fun _ _ h => h), fun _ => hb⟩
          refine GFrom.cons (GStep.make _ rfl _ rfl (fun _ => rfl) (fun Lx g ev wq hL hd hcl hS he hr => ?_)) ?_
          · have r0 : ev (.tmp 57) = g := hr (57, some 7) (by simp); clear hr he
            have l7 : Lx 7 = true := hd 7 (by kernel_rfl)
            have e : bitsAt [7] Lx = [true] := by simp [bitsAt, l7]
            have e2 : bitsAt [7] (upd Lx 8) = [true] := by simp [bitsAt, upd, l7]
            rw [e] at hS
            exact ⟨.string (⟨#[]⟩ : ByteArray), _, _, exec_convert rfl r0 (CVW.out wq _ (hS.out.by' rfl)), rfl, old_setF _ hL rfl, by rw [e2]; exact hS⟩
          refine GFrom.cons (GStep.val _ rfl rfl _ rfl (fun g => .string (⟨#[]⟩ : ByteArray)) (fun _ => rfl) (fun _ => rfl) (fun bs g ev wq hS he hr => ?_)) ?_
          · have r0 : ev (.tmp 7) = .string (⟨#[]⟩ : ByteArray) := hr (7, none) (by simp); have hk := he.1; clear hr he
            go_simp
          refine GFrom.cons (GStep.val _ rfl rfl _ rfl (fun g => .bool true) (fun _ => rfl) (fun _ => rfl) (fun bs g ev wq hS he hr => ?_)) ?_
          · have r0 : ev (.tmp 58) = .string (⟨#[]⟩ : ByteArray) := hr (58, some 8) (by simp); have r1 : ev (.tmp 59) = .string (⟨#[]⟩ : ByteArray) := hr (59, some 9) (by simp); have hk := he.1; clear hr he
            have e1 := EQW.out
            go_simp
          refine GFrom.cons (GStep.val _ rfl rfl _ rfl (fun g => .bool true) (fun _ => rfl) (fun _ => trivial) (fun bs g ev wq hS he hr => ?_)) ?_
          · have r0 : ev (.tmp 55) = .bool true := hr (55, some 5) (by simp); have r1 : ev (.tmp 60) = .bool true := hr (60, some 10) (by simp); have hk := he.1; clear hr he
            go_simp
          refine GFrom.cons (GStep.val _ rfl rfl _ rfl (fun g => .bool true) (fun _ => rfl) (fun _ => trivial) (fun bs g ev wq hS he hr => ?_)) ?_
          · have r0 : ev (.tmp 61) = .bool true := hr (61, some 11) (by simp); have hk := he.1; clear hr he
            go_simp
          refine GFrom.cons (GStep.val _ rfl rfl _ rfl (fun g => .int .i64 E) (fun _ => rfl) (fun _ => rfl) (fun bs g ev wq hS he hr => ?_)) ?_
          · have r0 : ev (.tmp 10) = .int .i64 E := hr (10, none) (by simp); have hk := he.1; clear hr he
            go_simp
          refine GFrom.cons (GStep.val _ rfl rfl _ rfl (fun g => .int .i64 E) (fun _ => rfl) (fun _ => rfl) (fun bs g ev wq hS he hr => ?_)) ?_
          · have r0 : ev (.tmp 12) = .int .i64 E := hr (12, none) (by simp); have hk := he.1; clear hr he
            go_simp
          refine GFrom.cons (GStep.val _ rfl rfl _ rfl (fun g => .bool true) (fun _ => rfl) (fun _ => rfl) (fun bs g ev wq hS he hr => ?_)) ?_
          · have r0 : ev (.tmp 63) = .int .i64 E := hr (63, some 13) (by simp); have r1 : ev (.tmp 64) = .int .i64 E := hr (64, some 14) (by simp); have hk := he.1; clear hr he
            go_simp
          refine GFrom.cons (GStep.val _ rfl rfl _ rfl (fun g => .bool true) (fun _ => rfl) (fun _ => trivial) (fun bs g ev wq hS he hr => ?_)) ?_
          · have r0 : ev (.tmp 62) = .bool true := hr (62, some 12) (by simp); have r1 : ev (.tmp 65) = .bool true := hr (65, some 15) (by simp); have hk := he.1; clear hr he
            go_simp
          refine GFrom.cons (GStep.val _ rfl rfl _ rfl (fun g => .bool true) (fun _ => rfl) (fun _ => trivial) (fun bs g ev wq hS he hr => ?_)) ?_
          · have r0 : ev (.tmp 66) = .bool true := hr (66, some 16) (by simp); have hk := he.1; clear hr he
            go_simp
          refine GFrom.cons (GStep.val _ rfl rfl _ rfl (fun g => frV ka (.slice y9 n9 d9)) (fun _ => rfl) (fun _ => rfl) (fun bs g ev wq hS he hr => ?_)) ?_
          · have r0 : ev (.tmp 9) = .pointer (some ⟨M9, 0, none⟩) := hr (9, none) (by simp); have hk := he.1; clear hr he
            exact exec_load rfl r0 (fr_load (B9.out.kept hS.out.kp (fun h => h)))
          refine GFrom.cons (GStep.val _ rfl rfl _ rfl (fun g => frV ka (.slice y11 n9 d11)) (fun _ => rfl) (fun _ => rfl) (fun bs g ev wq hS he hr => ?_)) ?_
          · have r0 : ev (.tmp 11) = .pointer (some ⟨M11, 0, none⟩) := hr (11, none) (by simp); have hk := he.1; clear hr he
            exact exec_load rfl r0 (fr_load (B11.out.kept hS.out.kp (fun h => h)))
          refine GFrom.cons (GStep.call _ rfl rfl _ rfl (fun g => .bool true) (fun _ => rfl) (fun _ => rfl) 14 (fun g => #[frV ka (.slice y9 n9 d9), frV ka (.slice y11 n9 d11)]) (fun bs g ev wq hS he hr => ?_) (fun L g wq hd hL hS => ?_)) ?_
          · have r0 : ev (.tmp 68) = frV ka (.slice y9 n9 d9) := hr (68, some 18) (by simp); have r1 : ev (.tmp 69) = frV ka (.slice y11 n9 d11) := hr (69, some 19) (by simp); have hk := he.1; have hf := he.2; clear hr he
            go_simp
          · exact (CS.out _ _ wq (Y9.out.kept hS.out.kp (fun _ h => h)) (Y11.out.kept hS.out.kp (fun _ h => h))).mono fun e w' ⟨h1, h2⟩ => ⟨h1, hid (hS.out.keptN h2)⟩
          refine GFrom.cons (GStep.val _ rfl rfl _ rfl (fun g => .bool true) (fun _ => rfl) (fun _ => trivial) (fun bs g ev wq hS he hr => ?_)) ?_
          · have r0 : ev (.tmp 67) = .bool true := hr (67, some 17) (by simp); have r1 : ev (.tmp 70) = .bool true := hr (70, some 20) (by simp); have hk := he.1; clear hr he
            go_simp
          refine GFrom.cons (GStep.val _ rfl rfl _ rfl (fun g => .bool true) (fun _ => rfl) (fun _ => trivial) (fun bs g ev wq hS he hr => ?_)) ?_
          · have r0 : ev (.tmp 71) = .bool true := hr (71, some 21) (by simp); have hk := he.1; clear hr he
            go_simp
          refine GFrom.cons (GStep.val _ rfl rfl _ rfl (fun g => .int .i64 n) (fun _ => rfl) (fun _ => rfl) (fun bs g ev wq hS he hr => ?_)) ?_
          · have r0 : ev (.tmp 2) = .int .i64 n := hr (2, none) (by simp); have hk := he.1; clear hr he
            go_simp
          refine GFrom.cons (GStep.call _ rfl rfl _ rfl (fun g => .int .i64 0) (fun _ => rfl) (fun _ => rfl) 15 (fun g => #[.int .i64 n]) (fun bs g ev wq hS he hr => ?_) (fun L g wq hd hL hS => ?_)) ?_
          · have r0 : ev (.tmp 73) = .int .i64 n := hr (73, some 23) (by simp); have hk := he.1; have hf := he.2; clear hr he
            go_simp
          · exact (CC.out wq).mono fun e w' ⟨h1, h2⟩ => ⟨h1, by rw [← h2]; exact hS⟩
          refine GFrom.cons (GStep.val _ rfl rfl _ rfl (fun g => .int .i64 0) (fun _ => rfl) (fun _ => rfl) (fun bs g ev wq hS he hr => ?_)) ?_
          · have r0 : ev (.tmp 8) = .int .i64 0 := hr (8, none) (by simp); have hk := he.1; clear hr he
            go_simp
          refine GFrom.cons (GStep.val _ rfl rfl _ rfl (fun g => .bool true) (fun _ => rfl) (fun _ => rfl) (fun bs g ev wq hS he hr => ?_)) ?_
          · have r0 : ev (.tmp 74) = .int .i64 0 := hr (74, some 24) (by simp); have r1 : ev (.tmp 75) = .int .i64 0 := hr (75, some 25) (by simp); have hk := he.1; clear hr he
            go_simp
          refine GFrom.cons (GStep.val _ rfl rfl _ rfl (fun g => .bool true) (fun _ => rfl) (fun _ => trivial) (fun bs g ev wq hS he hr => ?_)) ?_
          · have r0 : ev (.tmp 72) = .bool true := hr (72, some 22) (by simp); have r1 : ev (.tmp 76) = .bool true := hr (76, some 26) (by simp); have hk := he.1; clear hr he
            go_simp
          refine GFrom.cons (GStep.val _ rfl rfl _ rfl (fun g => .bool true) (fun _ => rfl) (fun _ => trivial) (fun bs g ev wq hS he hr => ?_)) ?_
          · have r0 : ev (.tmp 77) = .bool true := hr (77, some 27) (by simp); have hk := he.1; clear hr he
            go_simp
          exact GFrom.nil
        case hS => exact hid ⟨(Kp.refl Nb w12).drew, fun h => by simp at h⟩
        case hend =>
          intro g wy hy
          have K9 := hid (K12.out.trans hy.out.kp (fun _ _ h => h))
          clear hy
          simp only [putAll, List.zip_cons_cons, List.zip_nil_right, List.foldl_cons, List.foldl_nil, Act.put, List.setIfInBounds_toArray, List.set_cons_zero, List.set_cons_succ]
          go_wp2
          go_ret
          exact ⟨rfl, K9.out⟩
  · have CBF : Hid (∀ w, BySl Nb w (.slice yf L df) zs → Calls Try.prog 9 #[frV k (.slice yf L df)] w fun e w' => e = .returned (.string WS) ∧ Kp Nb w w') := hid (fun w hv => by
      rw [← HWS.out rfl]
      exact rbytes_any k _ zs w hv (by rw [HL.out]; exact HBR.out))
    have p0 := Q3.out.cell 0
    have p1 := Q3.out.cell 1
    simp only [List.getElem?_cons_zero, List.getElem?_cons_succ] at p0 p1
    go_wp2_with fail
    refine (CBF.out _ (HF1.out.kept KQ2.out (fun _ h => h))).mono ?_
    rintro e WQ ⟨rfl, k3⟩
    have KQ0 := hid (KQ2.out.trans k3 (fun _ _ h => h))
    clear k3 p0 p1 CBF
    have g1 := NR.out
    by_cases hnr : 0 ≤ n ∧ n ≤ 2048
    · obtain ⟨nn, rfl⟩ : ∃ m : Nat, n = (m : Int) := ⟨n.toNat, by omega⟩
      have hn2 : nn ≤ 2048 := by omega
      have c1 : decide ((nn : Int) ≥ 0) = true := decide_eq_true (by omega)
      have c2 : decide ((nn : Int) ≤ 2048) = true := decide_eq_true (by omega)
      have HM := make_bytes
      obtain ⟨zs0, hzs⟩ : ∃ z, List.replicate nn (0 : Int) = z := ⟨_, rfl⟩
      have CBY : Hid (∀ v w, BySl Nb w v zs0 → Calls Try.prog 9 #[frV 1 v] w fun e w' => e = .returned (.string (st (frameF 1 zs0))) ∧ Kp Nb w w') := hid (fun v w hv => rbytes_any 1 v zs0 w hv (by rw [← hzs, List.length_replicate]; unfold rightF; exact decide_eq_true (by omega)))
      have HCO : Hid ((((st (frameF 1 zs0)).size : Nat) : Int) = CO) := hid (by
        rw [st_size, frame_length 1 zs0 (by rw [← hzs, List.length_replicate]; unfold rightF; exact decide_eq_true (by omega)), ← hzs, List.length_replicate]
        exact HCOST.out)
      have BMK : Hid (∀ w : World, BySl Nb (w.alloc (.cells (List.replicate nn (Value.int .u8 0)).toArray 5 (0, 0))) (.slice (some ⟨w.heap.size, 0, none⟩) nn nn) zs0) := hid (fun w => by rw [← hzs]; exact by_zeros w nn hn2)
      have HMK := HM WQ nn hn2
      obtain ⟨SN, hSN⟩ : ∃ s, st (frameF 1 zs0) = s := ⟨_, rfl⟩
      rw [hSN] at CBY HCO
      have BW := BMK.out WQ
      have kW := (Kp.refl Nb WQ).alloc (.cells (List.replicate nn (Value.int .u8 0)).toArray 5 (0, 0))
      obtain ⟨WW, hWW⟩ : ∃ W, W = WQ.alloc (.cells (List.replicate nn (Value.int .u8 0)).toArray 5 (0, 0)) := ⟨_, rfl⟩
      rw [← hWW] at HMK BW kW
      have BWH := hid BW
      have KWH := hid kW
      have HMKH := hid HMK
      obtain ⟨bl, hbl⟩ : ∃ N, WQ.heap.size = N := ⟨_, rfl⟩
      rw [hbl] at BWH HMKH
      clear hnr hSN hzs HM BMK BW kW HMK hWW hbl
      go_wp2_with (refine wpList_val (by rfl) _ _ (exec_mkslice rfl rfl rfl HMKH.out) ?_)
      refine (CBY.out _ _ BWH.out).mono ?_
      rintro e wk ⟨rfl, kk0⟩
      have KQ := hid ((KQ0.out.trans KWH.out (fun _ _ h => h)).trans kk0 (fun _ _ h => h))
      have eco := HCO.out
      clear kk0 BWH KWH HMKH KQ0
      have HBq := hid (HB2.out.kept KQ.out (fun _ h => h))
      go_wp2_with fail
      refine (CRD.out _ HBq.out).mono ?_
      rintro e w9 ⟨y9, d9, rfl, hb9, k9⟩
      obtain ⟨M9, hM9⟩ : ∃ N, w9.heap.size = N := ⟨_, rfl⟩
      obtain ⟨W9, hW9⟩ : ∃ W, W = w9.alloc (.cells (frL ka (.slice y9 n9 d9)).toArray 24) := ⟨_, rfl⟩
      have ka9 : Kp Nb w9 W9 := by rw [hW9]; exact (Kp.refl Nb w9).alloc _
      have BM9 : Hid (Blk W9 M9 24 (frL ka (.slice y9 n9 d9))) := hid (by rw [hW9, ← hM9]; exact Blk.new w9 _ _)
      have YM9 := hid (hb9.kept ka9 (fun _ h => h))
      have kk := k9.trans ka9 (fun _ _ h => h)
      have KQ9 := hid (KQ.out.trans kk (fun _ _ h => h))
      have HB9 := hid (HBq.out.kept kk (fun _ h => h))
      have hcv : (convert 22 9 (.slice yb Lb db)).run Try.prog W9 = .ok (.string SB) W9 := by rw [← HSB.out]; exact conv_any HB9.out
      clear k9 ka9 hb9 kk KQ HBq
      go_upto_region 11 with fail
      rw [show w9.alloc (.cells #[.int .i64 ka, .slice y9 n9 d9] 24) = W9 from hW9.symm]
      clear hW9 hM9
      go_wp2_with (refine wpList_val (by rfl) _ _ (exec_convert rfl rfl hcv) ?_)
      refine (CRR2.out _).mono ?_
      rintro e w11 ⟨y11, d11, rfl, hb11, k11⟩
      obtain ⟨M11, hM11⟩ : ∃ N, w11.heap.size = N := ⟨_, rfl⟩
      obtain ⟨w12, hW11⟩ : ∃ W, W = w11.alloc (.cells (frL ka (.slice y11 n9 d11)).toArray 24) := ⟨_, rfl⟩
      have ka11 : Kp Nb w11 w12 := by rw [hW11]; exact (Kp.refl Nb w11).alloc _
      have kk := k11.trans ka11 (fun _ _ h => h)
      have B11 : Hid (Blk w12 M11 24 (frL ka (.slice y11 n9 d11))) := hid (by rw [hW11, ← hM11]; exact Blk.new w11 _ _)
      have Y11 := hid (hb11.kept ka11 (fun _ h => h))
      have B9 := hid (BM9.out.kept kk (fun h => h))
      have Y9 := hid (YM9.out.kept kk (fun _ h => h))
      have KQ12 := hid (KQ9.out.trans kk (fun _ _ h => h))
      have Q0 := hid (Q2.out.kept KQ12.out (fun h => h))
      have HF2 := hid (HF1.out.kept KQ12.out (fun _ h => h))
      have K12 := hid (K1.out.trans KQ12.out (fun _ _ h => h))
      clear k11 ka11 hb11 kk BM9 YM9 KQ9 HB9 hcv
      go_upto_region 12 with fail
      rw [show w11.alloc (.cells #[.int .i64 ka, .slice y11 n9 d11] 24) = w12 from hW11.symm]
      clear hW11 hM11
      refine region_ghost (g0 := (undef : Value)) [none, none, none, none, none, none, some 28, none, none, none, none, none, none, none, none, none, none, none, none, none, none, none, none, none, none, none, none, none, none, none, none, none, none, none, none, none, none, none, none, none, none, none, none, none, none, none, none, none, none, none, some 0, some 1, some 2, some 3, some 4, some 5, some 6, some 7, some 8, some 9, some 10, some 11, some 12, some 13, some 14, some 15, some 16, some 17, some 18, some 19, some 20, some 21, some 22, some 23, some 24, some 25, some 26, some 27] [[(3, none)], [(50, some 0)], [(3, none)], [(52, some 2)], [(51, some 1), (53, some 3)], [(54, some 4)], [(3, none)], [(56, some 6)], [(57, some 7)], [(7, none)], [(58, some 8), (59, some 9)], [(55, some 5), (60, some 10)], [(61, some 11)], [(10, none)], [(12, none)], [(63, some 13), (64, some 14)], [(62, some 12), (65, some 15)], [(66, some 16)], [(9, none)], [(11, none)], [(68, some 18), (69, some 19)], [(67, some 17), (70, some 20)], [(71, some 21)], [(2, none)], [(73, some 23)], [(8, none)], [(74, some 24), (75, some 25)], [(72, some 22), (76, some 26)], [(77, some 27)]] [some 50, some 51, some 52, some 53, some 54, some 55, some 56, some 57, some 58, some 59, some 60, some 61, some 62, some 63, some 64, some 65, some 66, some 67, some 68, some 69, some 70, some 71, some 72, some 73, some 74, some 75, some 76, some 77, some 6] (fun g => [frV k (.slice yf L df), .bool true, frV k (.slice yf L df), .bool true, .bool true, .bool true, frV k (.slice yf L df), g, .string WS, .string WS, .bool true, .bool true, .bool true, .int .i64 E, .int .i64 E, .bool true, .bool true, .bool true, frV ka (.slice y9 n9 d9), frV ka (.slice y11 n9 d11), .bool true, .bool true, .bool true, .int .i64 (nn : Int), .int .i64 CO, .int .i64 CO, .bool true, .bool true, .bool true]) [7] (fun bs g wq => Hid (RzS w12 FB bs g wq)) (by kernel_rfl) (by kernel_rfl) (fun g => by kernel_rfl) (by kernel_rfl) ?hS (GFrom.all (n := 29) (by kernel_rfl) ?hstep) ?hend
      case hstep =>
        refine GFrom.cons (GStep.val _ rfl rfl _ rfl (fun g => frV k (.slice yf L df)) (fun _ => rfl) (fun _ => trivial) (fun bs g ev wq hS he hr => ?_)) ?_
        · have r0 : ev (.tmp 3) = .pointer (some ⟨D, 0, none⟩) := hr (3, none) (by simp); have hk := he.1; clear hr he
          exact exec_load rfl r0 (fr_load (Q0.out.kept hS.out.kp (fun h => h)))
        refine GFrom.cons (GStep.call _ rfl rfl _ rfl (fun g => .bool true) (fun _ => rfl) (fun _ => trivial) 12 (fun g => #[frV k (.slice yf L df)]) (fun bs g ev wq hS he hr => ?_) (fun L g wq hd hL hS => ?_)) ?_
        · have r0 : ev (.tmp 50) = frV k (.slice yf L df) := hr (50, some 0) (by simp); have hk := he.1; have hf := he.2; clear hr he
          go_simp
        · exact (CR.out wq).mono fun e w' ⟨h1, h2⟩ => ⟨h1, hid (hS.out.keptN h2)⟩
        refine GFrom.cons (GStep.val _ rfl rfl _ rfl (fun g => frV k (.slice yf L df)) (fun _ => rfl) (fun _ => trivial) (fun bs g ev wq hS he hr => ?_)) ?_
        · have r0 : ev (.tmp 3) = .pointer (some ⟨D, 0, none⟩) := hr (3, none) (by simp); have hk := he.1; clear hr he
          exact exec_load rfl r0 (fr_load (Q0.out.kept hS.out.kp (fun h => h)))
        refine GFrom.cons (GStep.call _ rfl rfl _ rfl (fun g => .bool true) (fun _ => rfl) (fun _ => trivial) 8 (fun g => #[frV k (.slice yf L df)]) (fun bs g ev wq hS he hr => ?_) (fun L g wq hd hL hS => ?_)) ?_
        · have r0 : ev (.tmp 52) = frV k (.slice yf L df) := hr (52, some 2) (by simp); have hk := he.1; have hf := he.2; clear hr he
          go_simp
        · exact (CRR.out wq).mono fun e w' ⟨h1, h2⟩ => ⟨h1, hid (hS.out.keptN h2)⟩
        refine GFrom.cons (GStep.val _ rfl rfl _ rfl (fun g => .bool true) (fun _ => rfl) (fun _ => trivial) (fun bs g ev wq hS he hr => ?_)) ?_
        · have r0 : ev (.tmp 51) = .bool true := hr (51, some 1) (by simp); have r1 : ev (.tmp 53) = .bool true := hr (53, some 3) (by simp); have hk := he.1; clear hr he
          go_simp
        refine GFrom.cons (GStep.val _ rfl rfl _ rfl (fun g => .bool true) (fun _ => rfl) (fun _ => trivial) (fun bs g ev wq hS he hr => ?_)) ?_
        · have r0 : ev (.tmp 54) = .bool true := hr (54, some 4) (by simp); have hk := he.1; clear hr he
          go_simp
        refine GFrom.cons (GStep.val _ rfl rfl _ rfl (fun g => frV k (.slice yf L df)) (fun _ => rfl) (fun _ => rfl) (fun bs g ev wq hS he hr => ?_)) ?_
        · have r0 : ev (.tmp 3) = .pointer (some ⟨D, 0, none⟩) := hr (3, none) (by simp); have hk := he.1; clear hr he
          exact exec_load rfl r0 (fr_load (Q0.out.kept hS.out.kp (fun h => h)))
        refine GFrom.cons (GStep.callm _ rfl _ rfl (fun _ => rfl) 13 (fun g => #[frV k (.slice yf L df)]) (fun bs g ev wq hS he hr => ?_) (fun Lx g wq hL hd hcl hS => ?_)) ?_
        · have r0 : ev (.tmp 56) = frV k (.slice yf L df) := hr (56, some 6) (by simp); have hk := he.1; have hf := he.2; clear hr he
          go_simp
        · refine (CPU.out wq (HF2.out.kept hS.out.kp (fun _ h => h))).mono ?_
          rintro e w' ⟨r, rfl, hb, kn⟩
          have e2 : bitsAt [7] (upd Lx 7) = [true] := by simp [bitsAt, upd]
          refine ⟨r, r, rfl, rfl, old_setF _ hL rfl, ?_⟩
          rw [e2]
          exact hid ⟨hS.out.kp.trans kn (fun _ _ h => h), fun _ => hb⟩
        refine GFrom.cons (GStep.make _ rfl _ rfl (fun _ => rfl) (fun Lx g ev wq hL hd hcl hS he hr => ?_)) ?_
        · have r0 : ev (.tmp 57) = g := hr (57, some 7) (by simp); clear hr he
          have l7 : Lx 7 = true := hd 7 (by kernel_rfl)
          have e : bitsAt [7] Lx = [true] := by simp [bitsAt, l7]
          have e2 : bitsAt [7] (upd Lx 8) = [true] := by simp [bitsAt, upd, l7]
          rw [e] at hS
          exact ⟨.string WS, _, _, exec_convert rfl r0 (CVW.out wq _ (hS.out.by' rfl)), rfl, old_setF _ hL rfl, by rw [e2]; exact hS⟩
        refine GFrom.cons (GStep.val _ rfl rfl _ rfl (fun g => .string WS) (fun _ => rfl) (fun _ => rfl) (fun bs g ev wq hS he hr => ?_)) ?_
        · have r0 : ev (.tmp 7) = .string WS := hr (7, none) (by simp); have hk := he.1; clear hr he
          go_simp
        refine GFrom.cons (GStep.val _ rfl rfl _ rfl (fun g => .bool true) (fun _ => rfl) (fun _ => rfl) (fun bs g ev wq hS he hr => ?_)) ?_
        · have r0 : ev (.tmp 58) = .string WS := hr (58, some 8) (by simp); have r1 : ev (.tmp 59) = .string WS := hr (59, some 9) (by simp); have hk := he.1; clear hr he
          have e1 := EQW.out
          go_simp
        refine GFrom.cons (GStep.val _ rfl rfl _ rfl (fun g => .bool true) (fun _ => rfl) (fun _ => trivial) (fun bs g ev wq hS he hr => ?_)) ?_
        · have r0 : ev (.tmp 55) = .bool true := hr (55, some 5) (by simp); have r1 : ev (.tmp 60) = .bool true := hr (60, some 10) (by simp); have hk := he.1; clear hr he
          go_simp
        refine GFrom.cons (GStep.val _ rfl rfl _ rfl (fun g => .bool true) (fun _ => rfl) (fun _ => trivial) (fun bs g ev wq hS he hr => ?_)) ?_
        · have r0 : ev (.tmp 61) = .bool true := hr (61, some 11) (by simp); have hk := he.1; clear hr he
          go_simp
        refine GFrom.cons (GStep.val _ rfl rfl _ rfl (fun g => .int .i64 E) (fun _ => rfl) (fun _ => rfl) (fun bs g ev wq hS he hr => ?_)) ?_
        · have r0 : ev (.tmp 10) = .int .i64 E := hr (10, none) (by simp); have hk := he.1; clear hr he
          go_simp
        refine GFrom.cons (GStep.val _ rfl rfl _ rfl (fun g => .int .i64 E) (fun _ => rfl) (fun _ => rfl) (fun bs g ev wq hS he hr => ?_)) ?_
        · have r0 : ev (.tmp 12) = .int .i64 E := hr (12, none) (by simp); have hk := he.1; clear hr he
          go_simp
        refine GFrom.cons (GStep.val _ rfl rfl _ rfl (fun g => .bool true) (fun _ => rfl) (fun _ => rfl) (fun bs g ev wq hS he hr => ?_)) ?_
        · have r0 : ev (.tmp 63) = .int .i64 E := hr (63, some 13) (by simp); have r1 : ev (.tmp 64) = .int .i64 E := hr (64, some 14) (by simp); have hk := he.1; clear hr he
          go_simp
        refine GFrom.cons (GStep.val _ rfl rfl _ rfl (fun g => .bool true) (fun _ => rfl) (fun _ => trivial) (fun bs g ev wq hS he hr => ?_)) ?_
        · have r0 : ev (.tmp 62) = .bool true := hr (62, some 12) (by simp); have r1 : ev (.tmp 65) = .bool true := hr (65, some 15) (by simp); have hk := he.1; clear hr he
          go_simp
        refine GFrom.cons (GStep.val _ rfl rfl _ rfl (fun g => .bool true) (fun _ => rfl) (fun _ => trivial) (fun bs g ev wq hS he hr => ?_)) ?_
        · have r0 : ev (.tmp 66) = .bool true := hr (66, some 16) (by simp); have hk := he.1; clear hr he
          go_simp
        refine GFrom.cons (GStep.val _ rfl rfl _ rfl (fun g => frV ka (.slice y9 n9 d9)) (fun _ => rfl) (fun _ => rfl) (fun bs g ev wq hS he hr => ?_)) ?_
        · have r0 : ev (.tmp 9) = .pointer (some ⟨M9, 0, none⟩) := hr (9, none) (by simp); have hk := he.1; clear hr he
          exact exec_load rfl r0 (fr_load (B9.out.kept hS.out.kp (fun h => h)))
        refine GFrom.cons (GStep.val _ rfl rfl _ rfl (fun g => frV ka (.slice y11 n9 d11)) (fun _ => rfl) (fun _ => rfl) (fun bs g ev wq hS he hr => ?_)) ?_
        · have r0 : ev (.tmp 11) = .pointer (some ⟨M11, 0, none⟩) := hr (11, none) (by simp); have hk := he.1; clear hr he
          exact exec_load rfl r0 (fr_load (B11.out.kept hS.out.kp (fun h => h)))
        refine GFrom.cons (GStep.call _ rfl rfl _ rfl (fun g => .bool true) (fun _ => rfl) (fun _ => rfl) 14 (fun g => #[frV ka (.slice y9 n9 d9), frV ka (.slice y11 n9 d11)]) (fun bs g ev wq hS he hr => ?_) (fun L g wq hd hL hS => ?_)) ?_
        · have r0 : ev (.tmp 68) = frV ka (.slice y9 n9 d9) := hr (68, some 18) (by simp); have r1 : ev (.tmp 69) = frV ka (.slice y11 n9 d11) := hr (69, some 19) (by simp); have hk := he.1; have hf := he.2; clear hr he
          go_simp
        · exact (CS.out _ _ wq (Y9.out.kept hS.out.kp (fun _ h => h)) (Y11.out.kept hS.out.kp (fun _ h => h))).mono fun e w' ⟨h1, h2⟩ => ⟨h1, hid (hS.out.keptN h2)⟩
        refine GFrom.cons (GStep.val _ rfl rfl _ rfl (fun g => .bool true) (fun _ => rfl) (fun _ => trivial) (fun bs g ev wq hS he hr => ?_)) ?_
        · have r0 : ev (.tmp 67) = .bool true := hr (67, some 17) (by simp); have r1 : ev (.tmp 70) = .bool true := hr (70, some 20) (by simp); have hk := he.1; clear hr he
          go_simp
        refine GFrom.cons (GStep.val _ rfl rfl _ rfl (fun g => .bool true) (fun _ => rfl) (fun _ => trivial) (fun bs g ev wq hS he hr => ?_)) ?_
        · have r0 : ev (.tmp 71) = .bool true := hr (71, some 21) (by simp); have hk := he.1; clear hr he
          go_simp
        refine GFrom.cons (GStep.val _ rfl rfl _ rfl (fun g => .int .i64 (nn : Int)) (fun _ => rfl) (fun _ => rfl) (fun bs g ev wq hS he hr => ?_)) ?_
        · have r0 : ev (.tmp 2) = .int .i64 (nn : Int) := hr (2, none) (by simp); have hk := he.1; clear hr he
          go_simp
        refine GFrom.cons (GStep.call _ rfl rfl _ rfl (fun g => .int .i64 CO) (fun _ => rfl) (fun _ => rfl) 15 (fun g => #[.int .i64 (nn : Int)]) (fun bs g ev wq hS he hr => ?_) (fun L g wq hd hL hS => ?_)) ?_
        · have r0 : ev (.tmp 73) = .int .i64 (nn : Int) := hr (73, some 23) (by simp); have hk := he.1; have hf := he.2; clear hr he
          go_simp
        · exact (CC.out wq).mono fun e w' ⟨h1, h2⟩ => ⟨h1, by rw [← h2]; exact hS⟩
        refine GFrom.cons (GStep.val _ rfl rfl _ rfl (fun g => .int .i64 CO) (fun _ => rfl) (fun _ => rfl) (fun bs g ev wq hS he hr => ?_)) ?_
        · have r0 : ev (.tmp 8) = .int .i64 CO := hr (8, none) (by simp); have hk := he.1; clear hr he
          go_simp
        refine GFrom.cons (GStep.val _ rfl rfl _ rfl (fun g => .bool true) (fun _ => rfl) (fun _ => rfl) (fun bs g ev wq hS he hr => ?_)) ?_
        · have r0 : ev (.tmp 74) = .int .i64 CO := hr (74, some 24) (by simp); have r1 : ev (.tmp 75) = .int .i64 CO := hr (75, some 25) (by simp); have hk := he.1; clear hr he
          go_simp
        refine GFrom.cons (GStep.val _ rfl rfl _ rfl (fun g => .bool true) (fun _ => rfl) (fun _ => trivial) (fun bs g ev wq hS he hr => ?_)) ?_
        · have r0 : ev (.tmp 72) = .bool true := hr (72, some 22) (by simp); have r1 : ev (.tmp 76) = .bool true := hr (76, some 26) (by simp); have hk := he.1; clear hr he
          go_simp
        refine GFrom.cons (GStep.val _ rfl rfl _ rfl (fun g => .bool true) (fun _ => rfl) (fun _ => trivial) (fun bs g ev wq hS he hr => ?_)) ?_
        · have r0 : ev (.tmp 77) = .bool true := hr (77, some 27) (by simp); have hk := he.1; clear hr he
          go_simp
        exact GFrom.nil
      case hS => exact hid ⟨(Kp.refl Nb w12).drew, fun h => by simp at h⟩
      case hend =>
        intro g wy hy
        have K9 := hid (K12.out.trans hy.out.kp (fun _ _ h => h))
        clear hy
        simp only [putAll, List.zip_cons_cons, List.zip_nil_right, List.foldl_cons, List.foldl_nil, Act.put, List.setIfInBounds_toArray, List.set_cons_zero, List.set_cons_succ]
        go_wp2
        go_ret
        exact ⟨rfl, K9.out⟩
    · have eco : CO = 0 := by rw [← HCOST.out]; unfold costF; rw [if_neg hnr]
      subst eco
      have KQ := KQ0
      rcases (show n < 0 ∨ (0 ≤ n ∧ 2048 < n) by omega) with h1 | ⟨h1, h2⟩
      · have c1 : decide (n ≥ 0) = false := decide_eq_false (by omega)
        clear hnr h1
        have HBq := hid (HB2.out.kept KQ.out (fun _ h => h))
        go_wp2_with fail
        refine (CRD.out _ HBq.out).mono ?_
        rintro e w9 ⟨y9, d9, rfl, hb9, k9⟩
        obtain ⟨M9, hM9⟩ : ∃ N, w9.heap.size = N := ⟨_, rfl⟩
        obtain ⟨W9, hW9⟩ : ∃ W, W = w9.alloc (.cells (frL ka (.slice y9 n9 d9)).toArray 24) := ⟨_, rfl⟩
        have ka9 : Kp Nb w9 W9 := by rw [hW9]; exact (Kp.refl Nb w9).alloc _
        have BM9 : Hid (Blk W9 M9 24 (frL ka (.slice y9 n9 d9))) := hid (by rw [hW9, ← hM9]; exact Blk.new w9 _ _)
        have YM9 := hid (hb9.kept ka9 (fun _ h => h))
        have kk := k9.trans ka9 (fun _ _ h => h)
        have KQ9 := hid (KQ.out.trans kk (fun _ _ h => h))
        have HB9 := hid (HBq.out.kept kk (fun _ h => h))
        have hcv : (convert 22 9 (.slice yb Lb db)).run Try.prog W9 = .ok (.string SB) W9 := by rw [← HSB.out]; exact conv_any HB9.out
        clear k9 ka9 hb9 kk KQ HBq
        go_upto_region 11 with fail
        rw [show w9.alloc (.cells #[.int .i64 ka, .slice y9 n9 d9] 24) = W9 from hW9.symm]
        clear hW9 hM9
        go_wp2_with (refine wpList_val (by rfl) _ _ (exec_convert rfl rfl hcv) ?_)
        refine (CRR2.out _).mono ?_
        rintro e w11 ⟨y11, d11, rfl, hb11, k11⟩
        obtain ⟨M11, hM11⟩ : ∃ N, w11.heap.size = N := ⟨_, rfl⟩
        obtain ⟨w12, hW11⟩ : ∃ W, W = w11.alloc (.cells (frL ka (.slice y11 n9 d11)).toArray 24) := ⟨_, rfl⟩
        have ka11 : Kp Nb w11 w12 := by rw [hW11]; exact (Kp.refl Nb w11).alloc _
        have kk := k11.trans ka11 (fun _ _ h => h)
        have B11 : Hid (Blk w12 M11 24 (frL ka (.slice y11 n9 d11))) := hid (by rw [hW11, ← hM11]; exact Blk.new w11 _ _)
        have Y11 := hid (hb11.kept ka11 (fun _ h => h))
        have B9 := hid (BM9.out.kept kk (fun h => h))
        have Y9 := hid (YM9.out.kept kk (fun _ h => h))
        have KQ12 := hid (KQ9.out.trans kk (fun _ _ h => h))
        have Q0 := hid (Q2.out.kept KQ12.out (fun h => h))
        have HF2 := hid (HF1.out.kept KQ12.out (fun _ h => h))
        have K12 := hid (K1.out.trans KQ12.out (fun _ _ h => h))
        clear k11 ka11 hb11 kk BM9 YM9 KQ9 HB9 hcv
        go_upto_region 12 with fail
        rw [show w11.alloc (.cells #[.int .i64 ka, .slice y11 n9 d11] 24) = w12 from hW11.symm]
        clear hW11 hM11
        refine region_ghost (g0 := (undef : Value)) [none, none, none, none, none, none, some 28, none, none, none, none, none, none, none, none, none, none, none, none, none, none, none, none, none, none, none, none, none, none, none, none, none, none, none, none, none, none, none, none, none, none, none, none, none, none, none, none, none, none, none, some 0, some 1, some 2, some 3, some 4, some 5, some 6, some 7, some 8, some 9, some 10, some 11, some 12, some 13, some 14, some 15, some 16, some 17, some 18, some 19, some 20, some 21, some 22, some 23, some 24, some 25, some 26, some 27] [[(3, none)], [(50, some 0)], [(3, none)], [(52, some 2)], [(51, some 1), (53, some 3)], [(54, some 4)], [(3, none)], [(56, some 6)], [(57, some 7)], [(7, none)], [(58, some 8), (59, some 9)], [(55, some 5), (60, some 10)], [(61, some 11)], [(10, none)], [(12, none)], [(63, some 13), (64, some 14)], [(62, some 12), (65, some 15)], [(66, some 16)], [(9, none)], [(11, none)], [(68, some 18), (69, some 19)], [(67, some 17), (70, some 20)], [(71, some 21)], [(2, none)], [(73, some 23)], [(8, none)], [(74, some 24), (75, some 25)], [(72, some 22), (76, some 26)], [(77, some 27)]] [some 50, some 51, some 52, some 53, some 54, some 55, some 56, some 57, some 58, some 59, some 60, some 61, some 62, some 63, some 64, some 65, some 66, some 67, some 68, some 69, some 70, some 71, some 72, some 73, some 74, some 75, some 76, some 77, some 6] (fun g => [frV k (.slice yf L df), .bool true, frV k (.slice yf L df), .bool true, .bool true, .bool true, frV k (.slice yf L df), g, .string WS, .string WS, .bool true, .bool true, .bool true, .int .i64 E, .int .i64 E, .bool true, .bool true, .bool true, frV ka (.slice y9 n9 d9), frV ka (.slice y11 n9 d11), .bool true, .bool true, .bool true, .int .i64 n, .int .i64 0, .int .i64 0, .bool true, .bool true, .bool true]) [7] (fun bs g wq => Hid (RzS w12 FB bs g wq)) (by kernel_rfl) (by kernel_rfl) (fun g => by kernel_rfl) (by kernel_rfl) ?hS (GFrom.all (n := 29) (by kernel_rfl) ?hstep) ?hend
        case hstep =>
          refine GFrom.cons (GStep.val _ rfl rfl _ rfl (fun g => frV k (.slice yf L df)) (fun _ => rfl) (fun _ => trivial) (fun bs g ev wq hS he hr => ?_)) ?_
          · have r0 : ev (.tmp 3) = .pointer (some ⟨D, 0, none⟩) := hr (3, none) (by simp); have hk := he.1; clear hr he
            exact exec_load rfl r0 (fr_load (Q0.out.kept hS.out.kp (fun h => h)))
          refine GFrom.cons (GStep.call _ rfl rfl _ rfl (fun g => .bool true) (fun _ => rfl) (fun _ => trivial) 12 (fun g => #[frV k (.slice yf L df)]) (fun bs g ev wq hS he hr => ?_) (fun L g wq hd hL hS => ?_)) ?_
          · have r0 : ev (.tmp 50) = frV k (.slice yf L df) := hr (50, some 0) (by simp); have hk := he.1; have hf := he.2; clear hr he
            go_simp
          · exact (CR.out wq).mono fun e w' ⟨h1, h2⟩ => ⟨h1, hid (hS.out.keptN h2)⟩
          refine GFrom.cons (GStep.val _ rfl rfl _ rfl (fun g => frV k (.slice yf L df)) (fun _ => rfl) (fun _ => trivial) (fun bs g ev wq hS he hr => ?_)) ?_
          · have r0 : ev (.tmp 3) = .pointer (some ⟨D, 0, none⟩) := hr (3, none) (by simp); have hk := he.1; clear hr he
            exact exec_load rfl r0 (fr_load (Q0.out.kept hS.out.kp (fun h => h)))
          refine GFrom.cons (GStep.call _ rfl rfl _ rfl (fun g => .bool true) (fun _ => rfl) (fun _ => trivial) 8 (fun g => #[frV k (.slice yf L df)]) (fun bs g ev wq hS he hr => ?_) (fun L g wq hd hL hS => ?_)) ?_
          · have r0 : ev (.tmp 52) = frV k (.slice yf L df) := hr (52, some 2) (by simp); have hk := he.1; have hf := he.2; clear hr he
            go_simp
          · exact (CRR.out wq).mono fun e w' ⟨h1, h2⟩ => ⟨h1, hid (hS.out.keptN h2)⟩
          refine GFrom.cons (GStep.val _ rfl rfl _ rfl (fun g => .bool true) (fun _ => rfl) (fun _ => trivial) (fun bs g ev wq hS he hr => ?_)) ?_
          · have r0 : ev (.tmp 51) = .bool true := hr (51, some 1) (by simp); have r1 : ev (.tmp 53) = .bool true := hr (53, some 3) (by simp); have hk := he.1; clear hr he
            go_simp
          refine GFrom.cons (GStep.val _ rfl rfl _ rfl (fun g => .bool true) (fun _ => rfl) (fun _ => trivial) (fun bs g ev wq hS he hr => ?_)) ?_
          · have r0 : ev (.tmp 54) = .bool true := hr (54, some 4) (by simp); have hk := he.1; clear hr he
            go_simp
          refine GFrom.cons (GStep.val _ rfl rfl _ rfl (fun g => frV k (.slice yf L df)) (fun _ => rfl) (fun _ => rfl) (fun bs g ev wq hS he hr => ?_)) ?_
          · have r0 : ev (.tmp 3) = .pointer (some ⟨D, 0, none⟩) := hr (3, none) (by simp); have hk := he.1; clear hr he
            exact exec_load rfl r0 (fr_load (Q0.out.kept hS.out.kp (fun h => h)))
          refine GFrom.cons (GStep.callm _ rfl _ rfl (fun _ => rfl) 13 (fun g => #[frV k (.slice yf L df)]) (fun bs g ev wq hS he hr => ?_) (fun Lx g wq hL hd hcl hS => ?_)) ?_
          · have r0 : ev (.tmp 56) = frV k (.slice yf L df) := hr (56, some 6) (by simp); have hk := he.1; have hf := he.2; clear hr he
            go_simp
          · refine (CPU.out wq (HF2.out.kept hS.out.kp (fun _ h => h))).mono ?_
            rintro e w' ⟨r, rfl, hb, kn⟩
            have e2 : bitsAt [7] (upd Lx 7) = [true] := by simp [bitsAt, upd]
            refine ⟨r, r, rfl, rfl, old_setF _ hL rfl, ?_⟩
            rw [e2]
            exact hid ⟨hS.out.kp.trans kn (fun _ _ h => h), fun _ => hb⟩
          refine GFrom.cons (GStep.make _ rfl _ rfl (fun _ => rfl) (fun Lx g ev wq hL hd hcl hS he hr => ?_)) ?_
          · have r0 : ev (.tmp 57) = g := hr (57, some 7) (by simp); clear hr he
            have l7 : Lx 7 = true := hd 7 (by kernel_rfl)
            have e : bitsAt [7] Lx = [true] := by simp [bitsAt, l7]
            have e2 : bitsAt [7] (upd Lx 8) = [true] := by simp [bitsAt, upd, l7]
            rw [e] at hS
            exact ⟨.string WS, _, _, exec_convert rfl r0 (CVW.out wq _ (hS.out.by' rfl)), rfl, old_setF _ hL rfl, by rw [e2]; exact hS⟩
          refine GFrom.cons (GStep.val _ rfl rfl _ rfl (fun g => .string WS) (fun _ => rfl) (fun _ => rfl) (fun bs g ev wq hS he hr => ?_)) ?_
          · have r0 : ev (.tmp 7) = .string WS := hr (7, none) (by simp); have hk := he.1; clear hr he
            go_simp
          refine GFrom.cons (GStep.val _ rfl rfl _ rfl (fun g => .bool true) (fun _ => rfl) (fun _ => rfl) (fun bs g ev wq hS he hr => ?_)) ?_
          · have r0 : ev (.tmp 58) = .string WS := hr (58, some 8) (by simp); have r1 : ev (.tmp 59) = .string WS := hr (59, some 9) (by simp); have hk := he.1; clear hr he
            have e1 := EQW.out
            go_simp
          refine GFrom.cons (GStep.val _ rfl rfl _ rfl (fun g => .bool true) (fun _ => rfl) (fun _ => trivial) (fun bs g ev wq hS he hr => ?_)) ?_
          · have r0 : ev (.tmp 55) = .bool true := hr (55, some 5) (by simp); have r1 : ev (.tmp 60) = .bool true := hr (60, some 10) (by simp); have hk := he.1; clear hr he
            go_simp
          refine GFrom.cons (GStep.val _ rfl rfl _ rfl (fun g => .bool true) (fun _ => rfl) (fun _ => trivial) (fun bs g ev wq hS he hr => ?_)) ?_
          · have r0 : ev (.tmp 61) = .bool true := hr (61, some 11) (by simp); have hk := he.1; clear hr he
            go_simp
          refine GFrom.cons (GStep.val _ rfl rfl _ rfl (fun g => .int .i64 E) (fun _ => rfl) (fun _ => rfl) (fun bs g ev wq hS he hr => ?_)) ?_
          · have r0 : ev (.tmp 10) = .int .i64 E := hr (10, none) (by simp); have hk := he.1; clear hr he
            go_simp
          refine GFrom.cons (GStep.val _ rfl rfl _ rfl (fun g => .int .i64 E) (fun _ => rfl) (fun _ => rfl) (fun bs g ev wq hS he hr => ?_)) ?_
          · have r0 : ev (.tmp 12) = .int .i64 E := hr (12, none) (by simp); have hk := he.1; clear hr he
            go_simp
          refine GFrom.cons (GStep.val _ rfl rfl _ rfl (fun g => .bool true) (fun _ => rfl) (fun _ => rfl) (fun bs g ev wq hS he hr => ?_)) ?_
          · have r0 : ev (.tmp 63) = .int .i64 E := hr (63, some 13) (by simp); have r1 : ev (.tmp 64) = .int .i64 E := hr (64, some 14) (by simp); have hk := he.1; clear hr he
            go_simp
          refine GFrom.cons (GStep.val _ rfl rfl _ rfl (fun g => .bool true) (fun _ => rfl) (fun _ => trivial) (fun bs g ev wq hS he hr => ?_)) ?_
          · have r0 : ev (.tmp 62) = .bool true := hr (62, some 12) (by simp); have r1 : ev (.tmp 65) = .bool true := hr (65, some 15) (by simp); have hk := he.1; clear hr he
            go_simp
          refine GFrom.cons (GStep.val _ rfl rfl _ rfl (fun g => .bool true) (fun _ => rfl) (fun _ => trivial) (fun bs g ev wq hS he hr => ?_)) ?_
          · have r0 : ev (.tmp 66) = .bool true := hr (66, some 16) (by simp); have hk := he.1; clear hr he
            go_simp
          refine GFrom.cons (GStep.val _ rfl rfl _ rfl (fun g => frV ka (.slice y9 n9 d9)) (fun _ => rfl) (fun _ => rfl) (fun bs g ev wq hS he hr => ?_)) ?_
          · have r0 : ev (.tmp 9) = .pointer (some ⟨M9, 0, none⟩) := hr (9, none) (by simp); have hk := he.1; clear hr he
            exact exec_load rfl r0 (fr_load (B9.out.kept hS.out.kp (fun h => h)))
          refine GFrom.cons (GStep.val _ rfl rfl _ rfl (fun g => frV ka (.slice y11 n9 d11)) (fun _ => rfl) (fun _ => rfl) (fun bs g ev wq hS he hr => ?_)) ?_
          · have r0 : ev (.tmp 11) = .pointer (some ⟨M11, 0, none⟩) := hr (11, none) (by simp); have hk := he.1; clear hr he
            exact exec_load rfl r0 (fr_load (B11.out.kept hS.out.kp (fun h => h)))
          refine GFrom.cons (GStep.call _ rfl rfl _ rfl (fun g => .bool true) (fun _ => rfl) (fun _ => rfl) 14 (fun g => #[frV ka (.slice y9 n9 d9), frV ka (.slice y11 n9 d11)]) (fun bs g ev wq hS he hr => ?_) (fun L g wq hd hL hS => ?_)) ?_
          · have r0 : ev (.tmp 68) = frV ka (.slice y9 n9 d9) := hr (68, some 18) (by simp); have r1 : ev (.tmp 69) = frV ka (.slice y11 n9 d11) := hr (69, some 19) (by simp); have hk := he.1; have hf := he.2; clear hr he
            go_simp
          · exact (CS.out _ _ wq (Y9.out.kept hS.out.kp (fun _ h => h)) (Y11.out.kept hS.out.kp (fun _ h => h))).mono fun e w' ⟨h1, h2⟩ => ⟨h1, hid (hS.out.keptN h2)⟩
          refine GFrom.cons (GStep.val _ rfl rfl _ rfl (fun g => .bool true) (fun _ => rfl) (fun _ => trivial) (fun bs g ev wq hS he hr => ?_)) ?_
          · have r0 : ev (.tmp 67) = .bool true := hr (67, some 17) (by simp); have r1 : ev (.tmp 70) = .bool true := hr (70, some 20) (by simp); have hk := he.1; clear hr he
            go_simp
          refine GFrom.cons (GStep.val _ rfl rfl _ rfl (fun g => .bool true) (fun _ => rfl) (fun _ => trivial) (fun bs g ev wq hS he hr => ?_)) ?_
          · have r0 : ev (.tmp 71) = .bool true := hr (71, some 21) (by simp); have hk := he.1; clear hr he
            go_simp
          refine GFrom.cons (GStep.val _ rfl rfl _ rfl (fun g => .int .i64 n) (fun _ => rfl) (fun _ => rfl) (fun bs g ev wq hS he hr => ?_)) ?_
          · have r0 : ev (.tmp 2) = .int .i64 n := hr (2, none) (by simp); have hk := he.1; clear hr he
            go_simp
          refine GFrom.cons (GStep.call _ rfl rfl _ rfl (fun g => .int .i64 0) (fun _ => rfl) (fun _ => rfl) 15 (fun g => #[.int .i64 n]) (fun bs g ev wq hS he hr => ?_) (fun L g wq hd hL hS => ?_)) ?_
          · have r0 : ev (.tmp 73) = .int .i64 n := hr (73, some 23) (by simp); have hk := he.1; have hf := he.2; clear hr he
            go_simp
          · exact (CC.out wq).mono fun e w' ⟨h1, h2⟩ => ⟨h1, by rw [← h2]; exact hS⟩
          refine GFrom.cons (GStep.val _ rfl rfl _ rfl (fun g => .int .i64 0) (fun _ => rfl) (fun _ => rfl) (fun bs g ev wq hS he hr => ?_)) ?_
          · have r0 : ev (.tmp 8) = .int .i64 0 := hr (8, none) (by simp); have hk := he.1; clear hr he
            go_simp
          refine GFrom.cons (GStep.val _ rfl rfl _ rfl (fun g => .bool true) (fun _ => rfl) (fun _ => rfl) (fun bs g ev wq hS he hr => ?_)) ?_
          · have r0 : ev (.tmp 74) = .int .i64 0 := hr (74, some 24) (by simp); have r1 : ev (.tmp 75) = .int .i64 0 := hr (75, some 25) (by simp); have hk := he.1; clear hr he
            go_simp
          refine GFrom.cons (GStep.val _ rfl rfl _ rfl (fun g => .bool true) (fun _ => rfl) (fun _ => trivial) (fun bs g ev wq hS he hr => ?_)) ?_
          · have r0 : ev (.tmp 72) = .bool true := hr (72, some 22) (by simp); have r1 : ev (.tmp 76) = .bool true := hr (76, some 26) (by simp); have hk := he.1; clear hr he
            go_simp
          refine GFrom.cons (GStep.val _ rfl rfl _ rfl (fun g => .bool true) (fun _ => rfl) (fun _ => trivial) (fun bs g ev wq hS he hr => ?_)) ?_
          · have r0 : ev (.tmp 77) = .bool true := hr (77, some 27) (by simp); have hk := he.1; clear hr he
            go_simp
          exact GFrom.nil
        case hS => exact hid ⟨(Kp.refl Nb w12).drew, fun h => by simp at h⟩
        case hend =>
          intro g wy hy
          have K9 := hid (K12.out.trans hy.out.kp (fun _ _ h => h))
          clear hy
          simp only [putAll, List.zip_cons_cons, List.zip_nil_right, List.foldl_cons, List.foldl_nil, Act.put, List.setIfInBounds_toArray, List.set_cons_zero, List.set_cons_succ]
          go_wp2
          go_ret
          exact ⟨rfl, K9.out⟩
      · have c1 : decide (n ≥ 0) = true := decide_eq_true (by omega)
        have c2 : decide (n ≤ 2048) = false := decide_eq_false (by omega)
        clear hnr h1 h2
        have HBq := hid (HB2.out.kept KQ.out (fun _ h => h))
        go_wp2_with fail
        refine (CRD.out _ HBq.out).mono ?_
        rintro e w9 ⟨y9, d9, rfl, hb9, k9⟩
        obtain ⟨M9, hM9⟩ : ∃ N, w9.heap.size = N := ⟨_, rfl⟩
        obtain ⟨W9, hW9⟩ : ∃ W, W = w9.alloc (.cells (frL ka (.slice y9 n9 d9)).toArray 24) := ⟨_, rfl⟩
        have ka9 : Kp Nb w9 W9 := by rw [hW9]; exact (Kp.refl Nb w9).alloc _
        have BM9 : Hid (Blk W9 M9 24 (frL ka (.slice y9 n9 d9))) := hid (by rw [hW9, ← hM9]; exact Blk.new w9 _ _)
        have YM9 := hid (hb9.kept ka9 (fun _ h => h))
        have kk := k9.trans ka9 (fun _ _ h => h)
        have KQ9 := hid (KQ.out.trans kk (fun _ _ h => h))
        have HB9 := hid (HBq.out.kept kk (fun _ h => h))
        have hcv : (convert 22 9 (.slice yb Lb db)).run Try.prog W9 = .ok (.string SB) W9 := by rw [← HSB.out]; exact conv_any HB9.out
        clear k9 ka9 hb9 kk KQ HBq
        go_upto_region 11 with fail
        rw [show w9.alloc (.cells #[.int .i64 ka, .slice y9 n9 d9] 24) = W9 from hW9.symm]
        clear hW9 hM9
        go_wp2_with (refine wpList_val (by rfl) _ _ (exec_convert rfl rfl hcv) ?_)
        refine (CRR2.out _).mono ?_
        rintro e w11 ⟨y11, d11, rfl, hb11, k11⟩
        obtain ⟨M11, hM11⟩ : ∃ N, w11.heap.size = N := ⟨_, rfl⟩
        obtain ⟨w12, hW11⟩ : ∃ W, W = w11.alloc (.cells (frL ka (.slice y11 n9 d11)).toArray 24) := ⟨_, rfl⟩
        have ka11 : Kp Nb w11 w12 := by rw [hW11]; exact (Kp.refl Nb w11).alloc _
        have kk := k11.trans ka11 (fun _ _ h => h)
        have B11 : Hid (Blk w12 M11 24 (frL ka (.slice y11 n9 d11))) := hid (by rw [hW11, ← hM11]; exact Blk.new w11 _ _)
        have Y11 := hid (hb11.kept ka11 (fun _ h => h))
        have B9 := hid (BM9.out.kept kk (fun h => h))
        have Y9 := hid (YM9.out.kept kk (fun _ h => h))
        have KQ12 := hid (KQ9.out.trans kk (fun _ _ h => h))
        have Q0 := hid (Q2.out.kept KQ12.out (fun h => h))
        have HF2 := hid (HF1.out.kept KQ12.out (fun _ h => h))
        have K12 := hid (K1.out.trans KQ12.out (fun _ _ h => h))
        clear k11 ka11 hb11 kk BM9 YM9 KQ9 HB9 hcv
        go_upto_region 12 with fail
        rw [show w11.alloc (.cells #[.int .i64 ka, .slice y11 n9 d11] 24) = w12 from hW11.symm]
        clear hW11 hM11
        refine region_ghost (g0 := (undef : Value)) [none, none, none, none, none, none, some 28, none, none, none, none, none, none, none, none, none, none, none, none, none, none, none, none, none, none, none, none, none, none, none, none, none, none, none, none, none, none, none, none, none, none, none, none, none, none, none, none, none, none, none, some 0, some 1, some 2, some 3, some 4, some 5, some 6, some 7, some 8, some 9, some 10, some 11, some 12, some 13, some 14, some 15, some 16, some 17, some 18, some 19, some 20, some 21, some 22, some 23, some 24, some 25, some 26, some 27] [[(3, none)], [(50, some 0)], [(3, none)], [(52, some 2)], [(51, some 1), (53, some 3)], [(54, some 4)], [(3, none)], [(56, some 6)], [(57, some 7)], [(7, none)], [(58, some 8), (59, some 9)], [(55, some 5), (60, some 10)], [(61, some 11)], [(10, none)], [(12, none)], [(63, some 13), (64, some 14)], [(62, some 12), (65, some 15)], [(66, some 16)], [(9, none)], [(11, none)], [(68, some 18), (69, some 19)], [(67, some 17), (70, some 20)], [(71, some 21)], [(2, none)], [(73, some 23)], [(8, none)], [(74, some 24), (75, some 25)], [(72, some 22), (76, some 26)], [(77, some 27)]] [some 50, some 51, some 52, some 53, some 54, some 55, some 56, some 57, some 58, some 59, some 60, some 61, some 62, some 63, some 64, some 65, some 66, some 67, some 68, some 69, some 70, some 71, some 72, some 73, some 74, some 75, some 76, some 77, some 6] (fun g => [frV k (.slice yf L df), .bool true, frV k (.slice yf L df), .bool true, .bool true, .bool true, frV k (.slice yf L df), g, .string WS, .string WS, .bool true, .bool true, .bool true, .int .i64 E, .int .i64 E, .bool true, .bool true, .bool true, frV ka (.slice y9 n9 d9), frV ka (.slice y11 n9 d11), .bool true, .bool true, .bool true, .int .i64 n, .int .i64 0, .int .i64 0, .bool true, .bool true, .bool true]) [7] (fun bs g wq => Hid (RzS w12 FB bs g wq)) (by kernel_rfl) (by kernel_rfl) (fun g => by kernel_rfl) (by kernel_rfl) ?hS (GFrom.all (n := 29) (by kernel_rfl) ?hstep) ?hend
        case hstep =>
          refine GFrom.cons (GStep.val _ rfl rfl _ rfl (fun g => frV k (.slice yf L df)) (fun _ => rfl) (fun _ => trivial) (fun bs g ev wq hS he hr => ?_)) ?_
          · have r0 : ev (.tmp 3) = .pointer (some ⟨D, 0, none⟩) := hr (3, none) (by simp); have hk := he.1; clear hr he
            exact exec_load rfl r0 (fr_load (Q0.out.kept hS.out.kp (fun h => h)))
          refine GFrom.cons (GStep.call _ rfl rfl _ rfl (fun g => .bool true) (fun _ => rfl) (fun _ => trivial) 12 (fun g => #[frV k (.slice yf L df)]) (fun bs g ev wq hS he hr => ?_) (fun L g wq hd hL hS => ?_)) ?_
          · have r0 : ev (.tmp 50) = frV k (.slice yf L df) := hr (50, some 0) (by simp); have hk := he.1; have hf := he.2; clear hr he
            go_simp
          · exact (CR.out wq).mono fun e w' ⟨h1, h2⟩ => ⟨h1, hid (hS.out.keptN h2)⟩
          refine GFrom.cons (GStep.val _ rfl rfl _ rfl (fun g => frV k (.slice yf L df)) (fun _ => rfl) (fun _ => trivial) (fun bs g ev wq hS he hr => ?_)) ?_
          · have r0 : ev (.tmp 3) = .pointer (some ⟨D, 0, none⟩) := hr (3, none) (by simp); have hk := he.1; clear hr he
            exact exec_load rfl r0 (fr_load (Q0.out.kept hS.out.kp (fun h => h)))
          refine GFrom.cons (GStep.call _ rfl rfl _ rfl (fun g => .bool true) (fun _ => rfl) (fun _ => trivial) 8 (fun g => #[frV k (.slice yf L df)]) (fun bs g ev wq hS he hr => ?_) (fun L g wq hd hL hS => ?_)) ?_
          · have r0 : ev (.tmp 52) = frV k (.slice yf L df) := hr (52, some 2) (by simp); have hk := he.1; have hf := he.2; clear hr he
            go_simp
          · exact (CRR.out wq).mono fun e w' ⟨h1, h2⟩ => ⟨h1, hid (hS.out.keptN h2)⟩
          refine GFrom.cons (GStep.val _ rfl rfl _ rfl (fun g => .bool true) (fun _ => rfl) (fun _ => trivial) (fun bs g ev wq hS he hr => ?_)) ?_
          · have r0 : ev (.tmp 51) = .bool true := hr (51, some 1) (by simp); have r1 : ev (.tmp 53) = .bool true := hr (53, some 3) (by simp); have hk := he.1; clear hr he
            go_simp
          refine GFrom.cons (GStep.val _ rfl rfl _ rfl (fun g => .bool true) (fun _ => rfl) (fun _ => trivial) (fun bs g ev wq hS he hr => ?_)) ?_
          · have r0 : ev (.tmp 54) = .bool true := hr (54, some 4) (by simp); have hk := he.1; clear hr he
            go_simp
          refine GFrom.cons (GStep.val _ rfl rfl _ rfl (fun g => frV k (.slice yf L df)) (fun _ => rfl) (fun _ => rfl) (fun bs g ev wq hS he hr => ?_)) ?_
          · have r0 : ev (.tmp 3) = .pointer (some ⟨D, 0, none⟩) := hr (3, none) (by simp); have hk := he.1; clear hr he
            exact exec_load rfl r0 (fr_load (Q0.out.kept hS.out.kp (fun h => h)))
          refine GFrom.cons (GStep.callm _ rfl _ rfl (fun _ => rfl) 13 (fun g => #[frV k (.slice yf L df)]) (fun bs g ev wq hS he hr => ?_) (fun Lx g wq hL hd hcl hS => ?_)) ?_
          · have r0 : ev (.tmp 56) = frV k (.slice yf L df) := hr (56, some 6) (by simp); have hk := he.1; have hf := he.2; clear hr he
            go_simp
          · refine (CPU.out wq (HF2.out.kept hS.out.kp (fun _ h => h))).mono ?_
            rintro e w' ⟨r, rfl, hb, kn⟩
            have e2 : bitsAt [7] (upd Lx 7) = [true] := by simp [bitsAt, upd]
            refine ⟨r, r, rfl, rfl, old_setF _ hL rfl, ?_⟩
            rw [e2]
            exact hid ⟨hS.out.kp.trans kn (fun _ _ h => h), fun _ => hb⟩
          refine GFrom.cons (GStep.make _ rfl _ rfl (fun _ => rfl) (fun Lx g ev wq hL hd hcl hS he hr => ?_)) ?_
          · have r0 : ev (.tmp 57) = g := hr (57, some 7) (by simp); clear hr he
            have l7 : Lx 7 = true := hd 7 (by kernel_rfl)
            have e : bitsAt [7] Lx = [true] := by simp [bitsAt, l7]
            have e2 : bitsAt [7] (upd Lx 8) = [true] := by simp [bitsAt, upd, l7]
            rw [e] at hS
            exact ⟨.string WS, _, _, exec_convert rfl r0 (CVW.out wq _ (hS.out.by' rfl)), rfl, old_setF _ hL rfl, by rw [e2]; exact hS⟩
          refine GFrom.cons (GStep.val _ rfl rfl _ rfl (fun g => .string WS) (fun _ => rfl) (fun _ => rfl) (fun bs g ev wq hS he hr => ?_)) ?_
          · have r0 : ev (.tmp 7) = .string WS := hr (7, none) (by simp); have hk := he.1; clear hr he
            go_simp
          refine GFrom.cons (GStep.val _ rfl rfl _ rfl (fun g => .bool true) (fun _ => rfl) (fun _ => rfl) (fun bs g ev wq hS he hr => ?_)) ?_
          · have r0 : ev (.tmp 58) = .string WS := hr (58, some 8) (by simp); have r1 : ev (.tmp 59) = .string WS := hr (59, some 9) (by simp); have hk := he.1; clear hr he
            have e1 := EQW.out
            go_simp
          refine GFrom.cons (GStep.val _ rfl rfl _ rfl (fun g => .bool true) (fun _ => rfl) (fun _ => trivial) (fun bs g ev wq hS he hr => ?_)) ?_
          · have r0 : ev (.tmp 55) = .bool true := hr (55, some 5) (by simp); have r1 : ev (.tmp 60) = .bool true := hr (60, some 10) (by simp); have hk := he.1; clear hr he
            go_simp
          refine GFrom.cons (GStep.val _ rfl rfl _ rfl (fun g => .bool true) (fun _ => rfl) (fun _ => trivial) (fun bs g ev wq hS he hr => ?_)) ?_
          · have r0 : ev (.tmp 61) = .bool true := hr (61, some 11) (by simp); have hk := he.1; clear hr he
            go_simp
          refine GFrom.cons (GStep.val _ rfl rfl _ rfl (fun g => .int .i64 E) (fun _ => rfl) (fun _ => rfl) (fun bs g ev wq hS he hr => ?_)) ?_
          · have r0 : ev (.tmp 10) = .int .i64 E := hr (10, none) (by simp); have hk := he.1; clear hr he
            go_simp
          refine GFrom.cons (GStep.val _ rfl rfl _ rfl (fun g => .int .i64 E) (fun _ => rfl) (fun _ => rfl) (fun bs g ev wq hS he hr => ?_)) ?_
          · have r0 : ev (.tmp 12) = .int .i64 E := hr (12, none) (by simp); have hk := he.1; clear hr he
            go_simp
          refine GFrom.cons (GStep.val _ rfl rfl _ rfl (fun g => .bool true) (fun _ => rfl) (fun _ => rfl) (fun bs g ev wq hS he hr => ?_)) ?_
          · have r0 : ev (.tmp 63) = .int .i64 E := hr (63, some 13) (by simp); have r1 : ev (.tmp 64) = .int .i64 E := hr (64, some 14) (by simp); have hk := he.1; clear hr he
            go_simp
          refine GFrom.cons (GStep.val _ rfl rfl _ rfl (fun g => .bool true) (fun _ => rfl) (fun _ => trivial) (fun bs g ev wq hS he hr => ?_)) ?_
          · have r0 : ev (.tmp 62) = .bool true := hr (62, some 12) (by simp); have r1 : ev (.tmp 65) = .bool true := hr (65, some 15) (by simp); have hk := he.1; clear hr he
            go_simp
          refine GFrom.cons (GStep.val _ rfl rfl _ rfl (fun g => .bool true) (fun _ => rfl) (fun _ => trivial) (fun bs g ev wq hS he hr => ?_)) ?_
          · have r0 : ev (.tmp 66) = .bool true := hr (66, some 16) (by simp); have hk := he.1; clear hr he
            go_simp
          refine GFrom.cons (GStep.val _ rfl rfl _ rfl (fun g => frV ka (.slice y9 n9 d9)) (fun _ => rfl) (fun _ => rfl) (fun bs g ev wq hS he hr => ?_)) ?_
          · have r0 : ev (.tmp 9) = .pointer (some ⟨M9, 0, none⟩) := hr (9, none) (by simp); have hk := he.1; clear hr he
            exact exec_load rfl r0 (fr_load (B9.out.kept hS.out.kp (fun h => h)))
          refine GFrom.cons (GStep.val _ rfl rfl _ rfl (fun g => frV ka (.slice y11 n9 d11)) (fun _ => rfl) (fun _ => rfl) (fun bs g ev wq hS he hr => ?_)) ?_
          · have r0 : ev (.tmp 11) = .pointer (some ⟨M11, 0, none⟩) := hr (11, none) (by simp); have hk := he.1; clear hr he
            exact exec_load rfl r0 (fr_load (B11.out.kept hS.out.kp (fun h => h)))
          refine GFrom.cons (GStep.call _ rfl rfl _ rfl (fun g => .bool true) (fun _ => rfl) (fun _ => rfl) 14 (fun g => #[frV ka (.slice y9 n9 d9), frV ka (.slice y11 n9 d11)]) (fun bs g ev wq hS he hr => ?_) (fun L g wq hd hL hS => ?_)) ?_
          · have r0 : ev (.tmp 68) = frV ka (.slice y9 n9 d9) := hr (68, some 18) (by simp); have r1 : ev (.tmp 69) = frV ka (.slice y11 n9 d11) := hr (69, some 19) (by simp); have hk := he.1; have hf := he.2; clear hr he
            go_simp
          · exact (CS.out _ _ wq (Y9.out.kept hS.out.kp (fun _ h => h)) (Y11.out.kept hS.out.kp (fun _ h => h))).mono fun e w' ⟨h1, h2⟩ => ⟨h1, hid (hS.out.keptN h2)⟩
          refine GFrom.cons (GStep.val _ rfl rfl _ rfl (fun g => .bool true) (fun _ => rfl) (fun _ => trivial) (fun bs g ev wq hS he hr => ?_)) ?_
          · have r0 : ev (.tmp 67) = .bool true := hr (67, some 17) (by simp); have r1 : ev (.tmp 70) = .bool true := hr (70, some 20) (by simp); have hk := he.1; clear hr he
            go_simp
          refine GFrom.cons (GStep.val _ rfl rfl _ rfl (fun g => .bool true) (fun _ => rfl) (fun _ => trivial) (fun bs g ev wq hS he hr => ?_)) ?_
          · have r0 : ev (.tmp 71) = .bool true := hr (71, some 21) (by simp); have hk := he.1; clear hr he
            go_simp
          refine GFrom.cons (GStep.val _ rfl rfl _ rfl (fun g => .int .i64 n) (fun _ => rfl) (fun _ => rfl) (fun bs g ev wq hS he hr => ?_)) ?_
          · have r0 : ev (.tmp 2) = .int .i64 n := hr (2, none) (by simp); have hk := he.1; clear hr he
            go_simp
          refine GFrom.cons (GStep.call _ rfl rfl _ rfl (fun g => .int .i64 0) (fun _ => rfl) (fun _ => rfl) 15 (fun g => #[.int .i64 n]) (fun bs g ev wq hS he hr => ?_) (fun L g wq hd hL hS => ?_)) ?_
          · have r0 : ev (.tmp 73) = .int .i64 n := hr (73, some 23) (by simp); have hk := he.1; have hf := he.2; clear hr he
            go_simp
          · exact (CC.out wq).mono fun e w' ⟨h1, h2⟩ => ⟨h1, by rw [← h2]; exact hS⟩
          refine GFrom.cons (GStep.val _ rfl rfl _ rfl (fun g => .int .i64 0) (fun _ => rfl) (fun _ => rfl) (fun bs g ev wq hS he hr => ?_)) ?_
          · have r0 : ev (.tmp 8) = .int .i64 0 := hr (8, none) (by simp); have hk := he.1; clear hr he
            go_simp
          refine GFrom.cons (GStep.val _ rfl rfl _ rfl (fun g => .bool true) (fun _ => rfl) (fun _ => rfl) (fun bs g ev wq hS he hr => ?_)) ?_
          · have r0 : ev (.tmp 74) = .int .i64 0 := hr (74, some 24) (by simp); have r1 : ev (.tmp 75) = .int .i64 0 := hr (75, some 25) (by simp); have hk := he.1; clear hr he
            go_simp
          refine GFrom.cons (GStep.val _ rfl rfl _ rfl (fun g => .bool true) (fun _ => rfl) (fun _ => trivial) (fun bs g ev wq hS he hr => ?_)) ?_
          · have r0 : ev (.tmp 72) = .bool true := hr (72, some 22) (by simp); have r1 : ev (.tmp 76) = .bool true := hr (76, some 26) (by simp); have hk := he.1; clear hr he
            go_simp
          refine GFrom.cons (GStep.val _ rfl rfl _ rfl (fun g => .bool true) (fun _ => rfl) (fun _ => trivial) (fun bs g ev wq hS he hr => ?_)) ?_
          · have r0 : ev (.tmp 77) = .bool true := hr (77, some 27) (by simp); have hk := he.1; clear hr he
            go_simp
          exact GFrom.nil
        case hS => exact hid ⟨(Kp.refl Nb w12).drew, fun h => by simp at h⟩
        case hend =>
          intro g wy hy
          have K9 := hid (K12.out.trans hy.out.kp (fun _ _ h => h))
          clear hy
          simp only [putAll, List.zip_cons_cons, List.zip_nil_right, List.foldl_cons, List.foldl_nil, Act.put, List.setIfInBounds_toArray, List.set_cons_zero, List.set_cons_succ]
          go_wp2
          go_ret
          exact ⟨rfl, K9.out⟩

end Go.Proofs.Ytmgmghlflldepaa

namespace Go.Proofs.Ytmgmghlflldepaa
open Go.ChangeShapes Go.WideShapes Go.ChangeAt Go.RowKit

theorem open_intf {H : Type} {enc : TypeId × Value → H} {W : World} {n : Int} {d : DataW H} {p : List MemPlace}
    (h : DataW.Trod enc Try.prog W 0 (fun _ => true) true 3 (.int .i64 n) d p) : -9223372036854775808 ≤ n ∧ n < 9223372036854775808 := by
  obtain ⟨fuel, hf⟩ := h
  obtain ⟨N, hN, hw⟩ := DataW.trod_int Try.underlying3 hf
  simp [Value.cells] at hN
  subst hN
  exact wff_i64 hw.2

end Go.Proofs.Ytmgmghlflldepaa

namespace Go.Proofs.Ytmgmghlflldepaa
open Go.ChangeShapes Go.WideShapes Go.ChangeAt Go.RowKit

set_option maxRecDepth 100000 in
theorem freads_lifted (os : Os) (started : os.Started) (H : Type) (enc : TypeId × Value → H) :
    ReturnsInHanded {} Try.checked os 3 .any (Rows.frameReadsSpec.pre6 enc Try.prog Try.f3 Rows.frameReadsRow.domain false) (Rows.frameReadsSpec.post enc Try.prog Try.f3 false true false false) := by
  refine returnsInHanded_of_change (C := Try.checked) own started (by kernel_rfl) Try.func3
    (ChangeSpec.witness6 (enc := enc) (C := Try.checked) false ⟨#[], #[.agg #[.int .i64 0, .slice none 0 0], .slice none 0 0, .int .i64 0], []⟩ 8 (by kernel_rfl) (by kernel_rfl) (by kernel_rfl) (by kernel_rfl)) ?_
  intro W base args ds gs before hval0 hW hcnd _
  have hval : ∀ (j : Nat) t v, Try.f3.params[j]? = some t → args[j]? = some v → Value.okWide Try.prog W .any base t v := hval0
  have hW' := hW
  obtain ⟨p, q, hA0, hV, rfl, hfz, hnd⟩ := hW
  have hA : DataW.TrodAll enc Try.prog W 0 (fun _ => true) true Try.f3.params.toList args.toList ds p := hA0
  rw [Try.params3] at hA hval
  obtain ⟨v0, vs0, d0, ds0, p0, q0, hargs, rfl, rfl, h0, r0⟩ := trodAll_cons hA
  obtain ⟨v1, vs1, d1, ds1, p1, q1, rfl, rfl, rfl, h1, r1⟩ := trodAll_cons r0
  obtain ⟨v2, vs2, d2, ds2, p2, q2, rfl, rfl, rfl, h2, r2⟩ := trodAll_cons r1
  obtain ⟨rfl, rfl, rfl⟩ := trodAll_nil r2
  obtain rfl : args = #[v0, v1, v2] := by cases args; simp_all
  obtain ⟨rfl, rfl⟩ := trodVars_none hV
  have lt0 : ∀ x ∈ p0, x.block < W.heap.size := by obtain ⟨m, hm⟩ := h0; exact DataW.trod_lt m _ _ _ hm
  have lt1 : ∀ x ∈ p1, x.block < W.heap.size := by obtain ⟨m, hm⟩ := h1; exact DataW.trod_lt m _ _ _ hm
  have lt2 : ∀ x ∈ p2, x.block < W.heap.size := by obtain ⟨m, hm⟩ := h2; exact DataW.trod_lt m _ _ _ hm
  obtain ⟨n2, rfl⟩ := okWide_int Try.underlying3 (hval 2 3 v2 rfl rfl)
  obtain ⟨⟨k, vf⟩, ⟨hkr, zs, hf⟩, rfl⟩ := open_framev (hval 0 24 v0 rfl rfl) h0
  obtain ⟨bz, hb⟩ := open_bytes h1 (okWide_slice Try.underlying22 (hval 1 22 v1 rfl rfl))
  have hnr := open_intf h2
  clear hA0 hval0
  refine (freads_any k n2 vf v1 zs bz W hf hb hnr).mono fun e W' ⟨he, kp⟩ => ?_
  subst he
  have bel : Below W.heap.size W W' := kp.below (Nat.le_refl _) (fun _ _ h => h)
  exact ⟨_, rfl, _, _, _, [], _, [], hW', trodAll_mk1 (shut_bool Try.underlying4 _), (trodAll_cons_mk (Below.trod laidOut (by kernel_rfl) (of_decide_eq_true (by kernel_rfl)) h0 bel lt0) (trodAll_cons_mk (Below.trod laidOut (by kernel_rfl) (of_decide_eq_true (by kernel_rfl)) h1 bel lt1) (trodAll_cons_mk (Below.trod laidOut (by kernel_rfl) (of_decide_eq_true (by kernel_rfl)) h2 bel lt2) trodAll_mk0))), rfl, bel.frame _, fun h => by cases h⟩

theorem freads_over : Rows.frameReadsRow.holds Try.pinned (OpenSpec.ofChange Rows.frameReadsSpec) :=
  OpenClaim.holds_of_wide 3 Try.f3 rfl rfl rfl rfl rfl rfl rfl ⟨rfl, rfl, rfl, rfl, rfl⟩ rfl rfl rfl rfl rfl (by kernel_rfl) Try.func3 (by kernel_rfl)
    (of_decide_eq_true (by kernel_rfl)) (by unfold Func.isWrapper; first | (rw [if_pos (by decide +kernel)]; kernel_rfl) | (rw [if_neg (by decide +kernel)]; exact ⟨rfl, rfl⟩))
    (fun os started H enc _ => freads_lifted os started H enc)

theorem freads_said : Rows.FrameReadsSaid := freads_over
end Go.Proofs.Ytmgmghlflldepaa
