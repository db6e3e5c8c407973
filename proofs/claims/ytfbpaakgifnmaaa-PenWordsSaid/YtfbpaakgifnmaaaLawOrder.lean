/-
  The statement of layer 2 on what is written: it is read again, and lesser numbers stand ahead. The walk. Conditions: what numbers of these types are.
-/
import Derived.Test.YtfbpaakgifnmaaaLawStops
import Derived.Test.YtfbpaakgifnmaaaPenM
namespace Go.Proofs.Ytfbpaakgifnmaaa
open Go.RowKit

theorem by_far {S S' : Nat → Prop} {w w' : World} {v : Value} {zs : List Int} (h : BySl Nb w v zs) (k : Kp S w w') (hS : ∀ i, i < w.heap.size → ¬ S i) (hS' : ∀ i, i < w.heap.size → ¬ S' i) : BySl S' w' v zs := by
  obtain ⟨hz, ⟨⟨a, c, rfl⟩, rfl⟩ | ⟨blk, off, cap, rfl, hc, hm, hb, -⟩⟩ := h
  · exact ⟨hz, .inl ⟨⟨_, _, rfl⟩, rfl⟩⟩
  · have k' : Kp Nb w w' := k.mono (fun i hi h => hS i hi h)
    refine ⟨hz, .inr ⟨blk, off, cap, rfl, hc, hm, fun i hi => k'.cell (hb i hi) (fun h => h), fun hp => ?_⟩⟩
    have := World.block_lt_of_cell? w _ (hb 0 hp)
    exact hS' _ this

theorem st_take (zs : List Int) (n : Nat) : (st zs).extract 0 n = st (zs.take n) := by
  apply ByteArray.ext
  simp [st, ByteArray.data_extract]

theorem held_mono {P : Program} {md : Region.Mode} {ops : Array Oper} {Q : Exit → Act → World → Prop} {S S' : World → Prop} (h : ∀ w, S' w → S w) :
    ∀ (fuel : Nat) (listed : Array Bool) (a : Act) (w : World), wpAnyH P md ops Q S' fuel listed a w → wpAnyH P md ops Q S fuel listed a w
  | 0, _, _, _, k => k
  | fuel + 1, _, _, _, k => ⟨k.1, fun i hi => wpOp_mono (fun a' w' k' => ⟨h w' k'.1, held_mono h fuel _ a' w' k'.2⟩) (k.2 i hi)⟩

theorem pb_none {B B' : Nat} (h : B' ≠ B) : ¬ Pb B (.slice Option.none 0 0) B' := fun hp => by
  rcases hp with hp | hp
  · exact h hp
  · cases hp

/-- What is written in all. -/
def ordAll (U V N : Int) (zs : List Int) : List Int := numBytes U ++ (numBytes (zigI N) ++ (numBytes zs.length ++ (zs ++ (numBytes V ++ []))))
theorem ord_eq (U V N : Int) (zs : List Int) : [] ++ numBytes U ++ numBytes (zigI N) ++ numBytes zs.length ++ zs ++ numBytes V = ordAll U V N zs := by
  unfold ordAll
  rw [List.append_nil, List.nil_append, List.append_assoc, List.append_assoc, List.append_assoc]

theorem ord_read1 (U V N : Int) (zs : List Int) (hu : 0 ≤ U ∧ U < 18446744073709551616) (hv : 0 ≤ V ∧ V < 18446744073709551616) (hn : -9223372036854775808 ≤ N ∧ N < 9223372036854775808) (hz : IsBytes zs) (hl : zs.length ≤ 500) :
    readN (ordAll U V N zs) 0 U = (U, numBytes (zigI N) ++ (numBytes zs.length ++ (zs ++ (numBytes V ++ []))), 0) ∧
    readN (numBytes (zigI N) ++ (numBytes zs.length ++ (zs ++ (numBytes V ++ [])))) 0 18446744073709551615 = (zigI N, numBytes zs.length ++ (zs ++ (numBytes V ++ [])), 0) ∧
    textN (numBytes zs.length ++ (zs ++ (numBytes V ++ []))) 0 zs.length = (zs, numBytes V ++ [], 0) ∧
    readN (numBytes V ++ []) 0 18446744073709551615 = (V, [], 0) := by
  have b0 : IsBytes ([] : List Int) := fun i => by simp
  have b4 : IsBytes (numBytes V ++ []) := (numBytes_bytes V hv.1 hv.2).append b0
  have b3 : IsBytes (zs ++ (numBytes V ++ [])) := hz.append b4
  have b2 : IsBytes (numBytes (zs.length : Int) ++ (zs ++ (numBytes V ++ []))) := (numBytes_bytes _ (by omega) (by omega)).append b3
  have zr : 0 ≤ zigI N ∧ zigI N < 18446744073709551616 := by rw [zig_is N hn.1 hn.2]; split <;> omega
  have b1 : IsBytes (numBytes (zigI N) ++ (numBytes (zs.length : Int) ++ (zs ++ (numBytes V ++ [])))) := (numBytes_bytes _ zr.1 zr.2).append b2
  refine ⟨readN_numBytes U U hu.1 hu.2 (Int.le_refl _) _ b1, readN_numBytes _ _ zr.1 zr.2 (by omega) _ b2, ?_, readN_numBytes V _ hv.1 hv.2 (by omega) _ b0⟩
  unfold textN
  rw [readN_numBytes (zs.length : Int) _ (by omega) (by omega) (by omega) _ b3, if_neg (by simp), if_neg (by simp)]
  unfold fixN
  rw [if_neg (by simp), if_neg (by omega), if_neg (by rw [List.length_append]; omega), Int.toNat_natCast, List.take_left, List.drop_left]

theorem eye_number (E : Nat) (wx : World) (m : Int) (L L' : List Int) (V : Int) (h : EyeAt wx E L 0) (hr : Hid (readN L 0 m = (V, L', 0))) :
    Calls Try.prog 41 #[.pointer (some ⟨E, 0, none⟩), .int .u64 m] wx fun r w' => r = .returned (.int .u64 V) ∧ EyeAt w' E L' 0 ∧ Kp (Jb E) wx w' := by
  have := number_any E L 0 m wx h
  rw [hr.out] at this
  exact this
theorem eye_signed (E : Nat) (wx : World) (L L' : List Int) (V N : Int) (h : EyeAt wx E L 0) (hr : Hid (readN L 0 18446744073709551615 = (V, L', 0))) (hz : Hid (zagI V = N)) :
    Calls Try.prog 43 #[.pointer (some ⟨E, 0, none⟩)] wx fun r w' => r = .returned (.int .i64 N) ∧ EyeAt w' E L' 0 ∧ Kp (Jb E) wx w' := by
  have := signed_any E L 0 wx h
  rw [hr.out] at this
  rw [hz.out] at this
  exact this
theorem eye_text (E : Nat) (wx : World) (n : Int) (L L' xs : List Int) (h : EyeAt wx E L 0) (hr : Hid (textN L 0 n = (xs, L', 0))) (hl : Hid (L.length ≤ 140737488355328)) (hn : Hid (-9223372036854775808 ≤ n ∧ n < 9223372036854775808)) :
    Calls Try.prog 44 #[.pointer (some ⟨E, 0, none⟩), .int .i64 n] wx fun r w' => (∃ v', r = .returned v' ∧ BySl (Jb E) w' v' xs) ∧ EyeAt w' E L' 0 ∧ Kp (Jb E) wx w' := by
  have := text_any E L 0 n wx h hl.out hn.out.1 hn.out.2
  rw [hr.out] at this
  exact this

set_option linter.unusedSimpArgs false in
set_option maxRecDepth 100000 in
set_option maxHeartbeats 8000000 in
theorem order_walk (U V N : Int) (v0 : Value) (zs : List Int) (w : World) (h0 : BySl Nb w v0 zs) (u0 : 0 ≤ U) (u1 : U < 18446744073709551616) (y0 : 0 ≤ V) (y1 : V < 18446744073709551616) (n0 : -9223372036854775808 ≤ N) (n1 : N < 9223372036854775808) :
    Calls Try.prog 10 #[.agg #[.int .u64 U, .int .u64 V, .int .i64 N, v0]] w fun e w' => e = .returned (.bool true) ∧ Kp Nb w w' := by
  obtain ⟨x0, c0, e0⟩ := h0.shape
  have H0 := hid h0
  have HU := hid (And.intro u0 u1)
  have HV := hid (And.intro y0 y1)
  have HN := hid (And.intro n0 n1)
  clear h0 n0 n1 u0 u1 y0 y1
  subst e0
  go_enter Try.func10, Try.ntmps10
  go_wp2_with fail
  refine (first2_any _).mono ?_
  rintro e w1 ⟨rfl, k1⟩
  have K1 := hid (((Kp.refl Nb w).alloc (.cells #[.int .u64 U, .int .u64 V, .int .i64 N, .slice x0 zs.length c0] 87)).trans k1 (fun _ _ h => h))
  have hbk := (Blk.new w 87 [.int .u64 U, .int .u64 V, .int .i64 N, .slice x0 zs.length c0]).kept k1 (fun h => h)
  have q0 : w1.cell? ⟨w.heap.size, 0, none⟩ = some (.int .u64 U) := hbk.cell 0
  have q1 : w1.cell? ⟨w.heap.size, 1, none⟩ = some (.int .u64 V) := hbk.cell 1
  have q2 : w1.cell? ⟨w.heap.size, 2, none⟩ = some (.int .i64 N) := hbk.cell 2
  have q3 : w1.cell? ⟨w.heap.size, 3, none⟩ = some (.slice x0 zs.length c0) := hbk.cell 3
  clear k1 hbk
  go_wp2
  go_quiet (fail)
  have K2 : Hid (Kp Nb w (w1.drewN nq)) := by unfold Hid; exact K1.out.drewN nq
  generalize w1.drewN nq = w2 at K2 ⊢
  clear q0 q1 q2 q3 K1
  by_cases hb : 500 < zs.length
  · go_wp2
    go_ret
    exact ⟨rfl, K2.out⟩
  · have HZ : Hid (zs.length ≤ 500) := by unfold Hid; omega
    have HP0 := hid (((PenAt.new w2).kept ((Kp.refl Nb _).alloc (.cells #[.slice none 0 0] 89)) (fun h => h) (fun _ _ h => h)).kept ((Kp.refl Nb _).alloc (.cells #[.slice none 0 0] 89)) (fun h => h) (fun _ _ h => h))
    have HQ0 := hid ((PenAt.new (w2.alloc (.cells #[.slice none 0 0] 89))).kept ((Kp.refl Nb _).alloc (.cells #[.slice none 0 0] 89)) (fun h => h) (fun _ _ h => h))
    have HA0 := hid (PenAt.new ((w2.alloc (.cells #[.slice none 0 0] 89)).alloc (.cells #[.slice none 0 0] 89)))
    have K3 := hid (((K2.out.alloc (.cells #[.slice none 0 0] 89)).alloc (.cells #[.slice none 0 0] 89)).alloc (.cells #[.slice none 0 0] 89))
    rw [World.size_alloc] at HQ0
    rw [World.size_alloc, World.size_alloc] at HA0
    obtain ⟨w3, hW⟩ : ∃ w3, w3 = ((w2.alloc (.cells #[.slice none 0 0] 89)).alloc (.cells #[.slice none 0 0] 89)).alloc (.cells #[.slice none 0 0] 89) := ⟨_, rfl⟩
    obtain ⟨B, hB⟩ : ∃ B, B = w2.heap.size := ⟨_, rfl⟩
    have hsz := K2.out.size
    rw [← hB] at hsz
    have HB := hid hsz
    go_wp2_with fail
    rw [← hB] at HQ0 HA0
    rw [← hW] at HP0 HQ0 HA0 K3 ⊢
    rw [← hB] at HP0 ⊢
    have hs3 : w3.heap.size = B + 1 + 1 + 1 := by rw [hW, hB]; simp
    have HS3 := hid hs3
    clear hW hB hsz hs3
    refine (pen_number B _ [] U _ HP0.out HU.out.1 HU.out.2 (by decide)).mono ?_
    rintro e w4 ⟨rfl, vp, hp, tp⟩
    have HP1 := hid hp
    have TP := hid tp
    have gp : Hid (∀ g, vp.ownBlock = some g → B + 1 + 1 + 1 ≤ g ∧ g < w4.heap.size) := fun g hg => ⟨by have := tp.own_ge rfl g hg; have := HS3.out; omega, (hp.own.lt g hg).2⟩
    have HQ1 := hid (HQ0.out.kept tp.kp (pb_none (by omega)) (fun g hg => by cases hg))
    have HA1 := hid (HA0.out.kept tp.kp (pb_none (by omega)) (fun g hg => by cases hg))
    have K4 := hid (tp.fresh rfl K3.out HB.out)
    clear hp tp HP0 HQ0 HA0 TP
    go_wp2_with fail
    refine (pen_number (B + 1) _ [] V _ HQ1.out HV.out.1 HV.out.2 (by decide)).mono ?_
    rintro e w5 ⟨rfl, vq, hq, tq⟩
    have HQ2 := hid hq
    have HP2 := hid (HP1.out.kept tq.kp (pb_none (by omega)) (fun g hg => pb_none (by have := gp.out g hg; omega)))
    have HA2 := hid (HA1.out.kept tq.kp (pb_none (by omega)) (fun g hg => by cases hg))
    have gq : Hid (∀ g, vq.ownBlock = some g → B + 1 + 1 + 1 ≤ g) := fun g hg => by
      have h1 := tq.own_ge rfl g hg
      have h2 := HS3.out
      have h3 := HA1.out.lt
      omega
    have K5 := hid (tq.fresh rfl K4.out (Nat.le_trans HB.out (by omega)))
    clear hq tq HP1 HQ1 HA1 K4
    go_wp2_with fail
    have lU := numBytes_length U HU.out.2
    have lV := numBytes_length V HV.out.2
    have hz : 0 ≤ zigI N ∧ zigI N < 18446744073709551616 := by rw [zig_is N HN.out.1 HN.out.2]; have := HN.out; split <;> omega
    have lN := numBytes_length (zigI N) hz.2
    have lZ := numBytes_length (zs.length : Int) (by have := HZ.out; omega)
    have HL := hid (And.intro lU (And.intro lV (And.intro lN lZ)))
    have HZG := hid hz
    clear lU lV lN lZ hz
    refine (pen_number (B + 1 + 1) _ [] U _ HA2.out HU.out.1 HU.out.2 (by decide)).mono ?_
    rintro e w6 ⟨rfl, va, ha, ta⟩
    have HA3 := hid ha
    have TA := hid ta
    clear ha ta
    go_wp2_with fail
    refine (pen_signed (B + 1 + 1) _ _ N _ HA3.out (by have := HL.out; rw [List.nil_append]; omega)).mono ?_
    rintro e w7 ⟨rfl, vb, ha, ta⟩
    have HA4 := hid ha
    have TA := hid (TA.out.trans ta)
    clear ha ta HA3
    go_wp2_with fail
    have K7 := hid (TA.out.fresh rfl K5.out (Nat.le_trans HB.out (by omega)))
    have HBS := hid (by_far (S' := Pb (B + 1 + 1) vb) H0.out K7.out (fun _ _ h => h) (fun i hi h => by
      rcases h with h | h
      · have := HB.out; omega
      · have := TA.out.own_ge rfl i h; have := K5.out.size; omega))
    refine (pen_text (B + 1 + 1) vb _ _ zs _ HA4.out HBS.out (by have := HL.out; have := HZ.out; simp only [List.length_append, List.length_nil]; omega)).mono ?_
    rintro e w8 ⟨rfl, vc, ha, ta⟩
    have HA5 := hid ha
    have TA := hid (TA.out.trans ta)
    clear ha ta HA4 K7 HBS
    go_wp2_with fail
    refine (pen_number (B + 1 + 1) vc _ V _ HA5.out HV.out.1 HV.out.2 (by have := HL.out; have := HZ.out; simp only [List.length_append, List.length_nil]; omega)).mono ?_
    rintro e w9 ⟨rfl, vd, ha, ta⟩
    have ha' : PenAt w9 (B + 1 + 1) vd (ordAll U V N zs) := by rw [← ord_eq]; exact ha
    have HA6 := hid ha'
    have TA := hid (TA.out.trans ta)
    clear ha ta ha' HA5
    have HP3 := hid (HP2.out.kept TA.out.kp (pb_none (by omega)) (fun g hg => pb_none (by have := gp.out g hg; omega)))
    have HQ3 := hid (HQ2.out.kept TA.out.kp (pb_none (by omega)) (fun g hg => pb_none (by have := gq.out g hg; omega)))
    have K9 := hid (TA.out.fresh rfl K5.out (Nat.le_trans HB.out (by omega)))
    clear HP2 HQ2 HA2 TA K5 K3 gp gq
    have hla : (ordAll U V N zs).length ≤ 1000 := by
      have := HL.out; have := HZ.out
      unfold ordAll
      simp only [List.length_append, List.length_nil]
      omega
    have HLA := hid hla
    clear hla
    go_wp2_with fail
    refine (pen_bytes (B + 1 + 1) vd _ _ HA6.out (by have := HLA.out; omega)).mono ?_
    rintro e wa ⟨ra, rfl, oa, ka⟩
    have HRA := hid (BySl.ofOwn (S := Nb) oa HA6.out.bytes (fun _ _ _ h => h))
    have HP4 := hid (HP3.out.kept ka (fun h => h) (fun _ _ h => h))
    have HQ4 := hid (HQ3.out.kept ka (fun h => h) (fun _ _ h => h))
    have KA := hid (K9.out.trans ka (fun _ _ h => h))
    clear oa ka HA6 HP3 HQ3 K9
    go_wp2_with fail
    refine (read_any ra _ _ HRA.out (by have := HLA.out; omega)).mono ?_
    rintro e wb ⟨E, hE, rfl, qb, kb⟩
    have HQB := hid qb
    have hpl := HP4.out.lt
    have hql := HQ4.out.lt
    have HE1 : Hid (w.heap.size ≤ E ∧ B ≠ E ∧ B + 1 ≠ E) := by have := KA.out.size; unfold Hid; omega
    have HE2 : Hid (∀ g, vp.ownBlock = some g → g ≠ E) := fun g hg => by have := (HP4.out.own.lt g hg).2; omega
    have HE3 : Hid (∀ g, vq.ownBlock = some g → g ≠ E) := fun g hg => by have := (HQ4.out.own.lt g hg).2; omega
    have HP5 := hid (HP4.out.kept kb (fun h => h) (fun _ _ h => h))
    have HQ5 := hid (HQ4.out.kept kb (fun h => h) (fun _ _ h => h))
    have KB := hid (KA.out.trans kb (fun _ _ h => h))
    clear qb kb hE hpl hql HP4 HQ4 KA HRA
    have HZB := hid H0.out.1
    obtain ⟨r1, r2, r3, r4⟩ := ord_read1 U V N zs HU.out HV.out HN.out HZB.out HZ.out
    have hl3 : (numBytes (zs.length : Int) ++ (zs ++ (numBytes V ++ []))).length ≤ 140737488355328 := by have := HL.out; have := HZ.out; simp only [List.length_append, List.length_nil]; omega
    obtain ⟨M0, e0⟩ : ∃ M, M = ordAll U V N zs := ⟨_, rfl⟩
    obtain ⟨M1, e1⟩ : ∃ M, M = numBytes (zigI N) ++ (numBytes (zs.length : Int) ++ (zs ++ (numBytes V ++ []))) := ⟨_, rfl⟩
    obtain ⟨M2, e2⟩ : ∃ M, M = numBytes (zs.length : Int) ++ (zs ++ (numBytes V ++ [])) := ⟨_, rfl⟩
    obtain ⟨M4, e4⟩ : ∃ M, M = numBytes V ++ [] := ⟨_, rfl⟩
    rw [← e1, ← e0] at r1
    rw [← e1, ← e2] at r2
    rw [← e2, ← e4] at r3
    rw [← e4] at r4
    rw [← e2] at hl3
    rw [← e0] at HQB
    have R1 := hid r1
    have R2 := hid r2
    have R3 := hid r3
    have R4 := hid r4
    have RL3 := hid hl3
    have RZ := hid (zag_zig N HN.out.1 HN.out.2)
    have RN : Hid (-9223372036854775808 ≤ (zs.length : Int) ∧ (zs.length : Int) < 9223372036854775808) := hid (by have := HZ.out; omega)
    clear r1 r2 r3 r4 hl3 e0 e1 e2 e4
    have CBS : Hid (∀ wx : World, Kp (Jb E) wb wx → (convert 42 9 (.slice x0 zs.length c0)).run Try.prog wx = .ok (.string (st zs)) wx) := hid (fun wx k => conv_any (by_far (S' := Nb) H0.out (KB.out.trans k (fun i hi h => by have := HE1.out; unfold Jb at h; omega)) (fun _ _ h => h) (fun _ _ h => h)))
    obtain ⟨Sz, hSz⟩ : ∃ Sz, Sz = st zs := ⟨_, rfl⟩
    rw [← hSz] at CBS
    have HSZ := hid hSz
    clear hSz
    have kh := hid (Kp.refl (Jb E) wb)
    go_wp2_with fail
    refine wp_region_noPanic ?_
    refine wp_region_held_drew (S := fun w' => (convert 42 9 (.slice x0 zs.length c0)).run Try.prog w' = .ok (.string Sz) w') (by kernel_rfl) ?_ (fun hHeld => ?_)
    · exact CBS.out _ (Kp.drew kh.out)
    refine wpAnyH_take (i := 0) (v := ?_) rfl (by kernel_rfl) (by kernel_rfl) (by kernel_rfl) (fun _ _ _ h => h) (Or.inl ⟨by rfl, ?_⟩) (by assumption) ?_
    rotate_left
    · (intro w hSw; (try dsimp only at hSw); go_simp; try (with_reducible rfl))
    (try simp only [Act.put, List.getElem_toArray, List.getElem_cons_zero, List.getElem_cons_succ, List.setIfInBounds_toArray, List.set_cons_zero, List.set_cons_succ])
    refine wpAnyH_take (i := 1) (v := ?_) rfl (by kernel_rfl) (by kernel_rfl) (by kernel_rfl) (fun _ _ _ h => h) (Or.inl ⟨by rfl, ?_⟩) (by assumption) ?_
    rotate_left
    · (intro w hSw; (try dsimp only at hSw); go_simp; try (with_reducible rfl))
    (try simp only [Act.put, List.getElem_toArray, List.getElem_cons_zero, List.getElem_cons_succ, List.setIfInBounds_toArray, List.set_cons_zero, List.set_cons_succ])
    refine wpAnyH_take (i := 3) (v := ?_) rfl (by kernel_rfl) (by kernel_rfl) (by kernel_rfl) (fun _ _ _ h => h) (Or.inl ⟨by rfl, ?_⟩) (by assumption) ?_
    rotate_left
    · (intro w hSw; (try dsimp only at hSw); go_simp; try (with_reducible rfl))
    (try simp only [Act.put, List.getElem_toArray, List.getElem_cons_zero, List.getElem_cons_succ, List.setIfInBounds_toArray, List.set_cons_zero, List.set_cons_succ])
    refine wpAnyH_ready (rs := [2]) (by kernel_rfl) (by simp) ?_
    refine AllReadyH.cons rfl (fun K hK => ?_) AllReadyH.nil
    go_simp
    refine (eye_number E _ _ _ _ _ (EyeAt.kept HQB.out (Kp.drew (Kp.refl Nb _)) (fun _ _ h => h)) R1).mono ?_
    rintro e wy ⟨rfl, q', k'⟩
    have HQB := hid q'
    have kh := hid (Kp.trans (S := Jb E) (Kp.drew kh.out) k' (fun _ _ h => h))
    clear q' k'
    go_wp2_with fail
    refine hK.out _ _ ?_ (fun hHeld => ?_)
    · exact CBS.out _ kh.out
    clear hK K
    (try simp only [Act.put, List.getElem_toArray, List.getElem_cons_zero, List.getElem_cons_succ, List.setIfInBounds_toArray, List.set_cons_zero, List.set_cons_succ])
    refine wpAnyH_take (i := 4) (v := ?_) rfl (by kernel_rfl) (by kernel_rfl) (by kernel_rfl) (fun _ _ _ h => h) (Or.inl ⟨by rfl, ?_⟩) (by assumption) ?_
    rotate_left
    · (intro w hSw; (try dsimp only at hSw); go_simp; try (with_reducible rfl))
    (try simp only [Act.put, List.getElem_toArray, List.getElem_cons_zero, List.getElem_cons_succ, List.setIfInBounds_toArray, List.set_cons_zero, List.set_cons_succ])
    refine wpAnyH_take (i := 5) (v := ?_) rfl (by kernel_rfl) (by kernel_rfl) (by kernel_rfl) (fun _ _ _ h => h) (Or.inl ⟨by rfl, ?_⟩) (by assumption) ?_
    rotate_left
    · (intro w hSw; (try dsimp only at hSw); go_simp; try (with_reducible rfl))
    (try simp only [Act.put, List.getElem_toArray, List.getElem_cons_zero, List.getElem_cons_succ, List.setIfInBounds_toArray, List.set_cons_zero, List.set_cons_succ])
    refine wpAnyH_take (i := 6) (v := ?_) rfl (by kernel_rfl) (by kernel_rfl) (by kernel_rfl) (fun _ _ _ h => h) (Or.inl ⟨by rfl, ?_⟩) (by assumption) ?_
    rotate_left
    · (intro w hSw; (try dsimp only at hSw); go_simp; try (with_reducible rfl))
    (try simp only [Act.put, List.getElem_toArray, List.getElem_cons_zero, List.getElem_cons_succ, List.setIfInBounds_toArray, List.set_cons_zero, List.set_cons_succ])
    refine wpAnyH_take (i := 8) (v := ?_) rfl (by kernel_rfl) (by kernel_rfl) (by kernel_rfl) (fun _ _ _ h => h) (Or.inl ⟨by rfl, ?_⟩) (by assumption) ?_
    rotate_left
    · (intro w hSw; (try dsimp only at hSw); go_simp; try (with_reducible rfl))
    (try simp only [Act.put, List.getElem_toArray, List.getElem_cons_zero, List.getElem_cons_succ, List.setIfInBounds_toArray, List.set_cons_zero, List.set_cons_succ])
    refine wpAnyH_ready (rs := [7]) (by kernel_rfl) (by simp) ?_
    refine AllReadyH.cons rfl (fun K hK => ?_) AllReadyH.nil
    go_simp
    refine (eye_signed E _ _ _ _ _ HQB.out R2 RZ).mono ?_
    rintro e wy2 ⟨rfl, q', k'⟩
    have HQB := hid q'
    have kh := hid (Kp.trans (S := Jb E) kh.out k' (fun _ _ h => h))
    clear q' k'
    go_wp2_with fail
    refine hK.out _ _ ?_ (fun hHeld => ?_)
    · exact CBS.out _ kh.out
    clear hK K
    (try simp only [Act.put, List.getElem_toArray, List.getElem_cons_zero, List.getElem_cons_succ, List.setIfInBounds_toArray, List.set_cons_zero, List.set_cons_succ])
    refine wpAnyH_take (i := 9) (v := ?_) rfl (by kernel_rfl) (by kernel_rfl) (by kernel_rfl) (fun _ _ _ h => h) (Or.inl ⟨by rfl, ?_⟩) (by assumption) ?_
    rotate_left
    · (intro w hSw; (try dsimp only at hSw); go_simp; try (with_reducible rfl))
    (try simp only [Act.put, List.getElem_toArray, List.getElem_cons_zero, List.getElem_cons_succ, List.setIfInBounds_toArray, List.set_cons_zero, List.set_cons_succ])
    refine wpAnyH_take (i := 10) (v := ?_) rfl (by kernel_rfl) (by kernel_rfl) (by kernel_rfl) (fun _ _ _ h => h) (Or.inl ⟨by rfl, ?_⟩) (by assumption) ?_
    rotate_left
    · (intro w hSw; (try dsimp only at hSw); go_simp; try (with_reducible rfl))
    (try simp only [Act.put, List.getElem_toArray, List.getElem_cons_zero, List.getElem_cons_succ, List.setIfInBounds_toArray, List.set_cons_zero, List.set_cons_succ])
    refine wpAnyH_take (i := 11) (v := ?_) rfl (by kernel_rfl) (by kernel_rfl) (by kernel_rfl) (fun _ _ _ h => h) (Or.inl ⟨by rfl, ?_⟩) (by assumption) ?_
    rotate_left
    · (intro w hSw; (try dsimp only at hSw); go_simp; try (with_reducible rfl))
    (try simp only [Act.put, List.getElem_toArray, List.getElem_cons_zero, List.getElem_cons_succ, List.setIfInBounds_toArray, List.set_cons_zero, List.set_cons_succ])
    refine wpAnyH_take (i := 12) (v := ?_) rfl (by kernel_rfl) (by kernel_rfl) (by kernel_rfl) (fun _ _ _ h => h) (Or.inl ⟨by rfl, ?_⟩) (by assumption) ?_
    rotate_left
    · (intro w hSw; (try dsimp only at hSw); go_simp; try (with_reducible rfl))
    (try simp only [Act.put, List.getElem_toArray, List.getElem_cons_zero, List.getElem_cons_succ, List.setIfInBounds_toArray, List.set_cons_zero, List.set_cons_succ])
    refine wpAnyH_take (i := 13) (v := ?_) rfl (by kernel_rfl) (by kernel_rfl) (by kernel_rfl) (fun _ _ _ h => h) (Or.inl ⟨by rfl, ?_⟩) (by assumption) ?_
    rotate_left
    · (intro w hSw; (try dsimp only at hSw); go_simp; try (with_reducible rfl))
    (try simp only [Act.put, List.getElem_toArray, List.getElem_cons_zero, List.getElem_cons_succ, List.setIfInBounds_toArray, List.set_cons_zero, List.set_cons_succ])
    refine wpAnyH_take (i := 14) (v := ?_) rfl (by kernel_rfl) (by kernel_rfl) (by kernel_rfl) (fun _ _ _ h => h) (Or.inl ⟨by rfl, ?_⟩) (by assumption) ?_
    rotate_left
    · (intro w hSw; (try dsimp only at hSw); go_simp; try (with_reducible rfl))
    (try simp only [Act.put, List.getElem_toArray, List.getElem_cons_zero, List.getElem_cons_succ, List.setIfInBounds_toArray, List.set_cons_zero, List.set_cons_succ])
    refine wpAnyH_take (i := 17) (v := ?_) rfl (by kernel_rfl) (by kernel_rfl) (by kernel_rfl) (fun _ _ _ h => h) (Or.inl ⟨by rfl, ?_⟩) (by assumption) ?_
    rotate_left
    · (intro w hSw; (try dsimp only at hSw); go_simp; try (with_reducible rfl))
    (try simp only [Act.put, List.getElem_toArray, List.getElem_cons_zero, List.getElem_cons_succ, List.setIfInBounds_toArray, List.set_cons_zero, List.set_cons_succ])
    refine wpAnyH_take (i := 18) (v := ?_) rfl (by kernel_rfl) (by kernel_rfl) (by kernel_rfl) (fun _ _ _ h => h) (Or.inl ⟨by rfl, ?_⟩) (by assumption) ?_
    rotate_left
    · (intro w hSw; (try dsimp only at hSw); go_simp; try (with_reducible rfl))
    (try simp only [Act.put, List.getElem_toArray, List.getElem_cons_zero, List.getElem_cons_succ, List.setIfInBounds_toArray, List.set_cons_zero, List.set_cons_succ])
    refine wpAnyH_ready (rs := [15]) (by kernel_rfl) (by simp) ?_
    refine AllReadyH.cons rfl (fun K hK => ?_) AllReadyH.nil
    go_simp
    refine (eye_text E _ _ _ _ _ HQB.out R3 RL3 RN).mono ?_
    rintro e wy3 ⟨⟨rt, rfl, bt⟩, q', k'⟩
    have HQB := hid q'
    have kh := hid (Kp.trans (S := Jb E) kh.out k' (fun _ _ h => h))
    have hcv := conv_any bt
    rw [← HSZ.out] at hcv
    clear q' k' bt
    go_wp2_with fail
    refine hK.out _ _ ?_ (fun hHeld => ?_)
    · exact CBS.out _ kh.out
    clear hK K
    (try simp only [Act.put, List.getElem_toArray, List.getElem_cons_zero, List.getElem_cons_succ, List.setIfInBounds_toArray, List.set_cons_zero, List.set_cons_succ])
    refine wpAnyH_ready (rs := [16]) (by kernel_rfl) (by simp) ?_
    refine AllReadyH.cons rfl (fun K hK => ?_) AllReadyH.nil
    go_simp
    refine hK.out _ _ ?_ (fun hHeld => ?_)
    · exact CBS.out _ kh.out
    clear hK K
    (try simp only [Act.put, List.getElem_toArray, List.getElem_cons_zero, List.getElem_cons_succ, List.setIfInBounds_toArray, List.set_cons_zero, List.set_cons_succ])
    refine wpAnyH_take (i := 19) (v := ?_) rfl (by kernel_rfl) (by kernel_rfl) (by kernel_rfl) (fun _ _ _ h => h) (Or.inl ⟨by rfl, ?_⟩) (by assumption) ?_
    rotate_left
    · (intro w hSw; (try dsimp only at hSw); go_simp; try (with_reducible rfl))
    (try simp only [Act.put, List.getElem_toArray, List.getElem_cons_zero, List.getElem_cons_succ, List.setIfInBounds_toArray, List.set_cons_zero, List.set_cons_succ])
    refine wpAnyH_take (i := 20) (v := ?_) rfl (by kernel_rfl) (by kernel_rfl) (by kernel_rfl) (fun _ _ _ h => h) (Or.inl ⟨by rfl, ?_⟩) (by assumption) ?_
    rotate_left
    · (intro w hSw; (try dsimp only at hSw); go_simp; try (with_reducible rfl))
    (try simp only [Act.put, List.getElem_toArray, List.getElem_cons_zero, List.getElem_cons_succ, List.setIfInBounds_toArray, List.set_cons_zero, List.set_cons_succ])
    refine wpAnyH_take (i := 21) (v := ?_) rfl (by kernel_rfl) (by kernel_rfl) (by kernel_rfl) (fun _ _ _ h => h) (Or.inl ⟨by rfl, ?_⟩) (by assumption) ?_
    rotate_left
    · (intro w hSw; (try dsimp only at hSw); go_simp; try (with_reducible rfl))
    (try simp only [Act.put, List.getElem_toArray, List.getElem_cons_zero, List.getElem_cons_succ, List.setIfInBounds_toArray, List.set_cons_zero, List.set_cons_succ])
    refine wpAnyH_take (i := 22) (v := ?_) rfl (by kernel_rfl) (by kernel_rfl) (by kernel_rfl) (fun _ _ _ h => h) (Or.inl ⟨by rfl, ?_⟩) (by assumption) ?_
    rotate_left
    · (intro w hSw; (try dsimp only at hSw); go_simp; try (with_reducible rfl))
    (try simp only [Act.put, List.getElem_toArray, List.getElem_cons_zero, List.getElem_cons_succ, List.setIfInBounds_toArray, List.set_cons_zero, List.set_cons_succ])
    refine wpAnyH_take (i := 24) (v := ?_) rfl (by kernel_rfl) (by kernel_rfl) (by kernel_rfl) (fun _ _ _ h => h) (Or.inl ⟨by rfl, ?_⟩) (by assumption) ?_
    rotate_left
    · (intro w hSw; (try dsimp only at hSw); go_simp; try (with_reducible rfl))
    (try simp only [Act.put, List.getElem_toArray, List.getElem_cons_zero, List.getElem_cons_succ, List.setIfInBounds_toArray, List.set_cons_zero, List.set_cons_succ])
    refine wpAnyH_ready (rs := [23]) (by kernel_rfl) (by simp) ?_
    refine AllReadyH.cons rfl (fun K hK => ?_) AllReadyH.nil
    go_simp
    refine (eye_number E _ _ _ _ _ HQB.out R4).mono ?_
    rintro e wy4 ⟨rfl, q', k'⟩
    have HQB := hid q'
    have kh := hid (Kp.trans (S := Jb E) kh.out k' (fun _ _ h => h))
    clear q' k' hcv
    go_wp2_with fail
    refine hK.out _ _ ?_ (fun hHeld => ?_)
    · exact CBS.out _ kh.out
    clear hK K
    (try simp only [Act.put, List.getElem_toArray, List.getElem_cons_zero, List.getElem_cons_succ, List.setIfInBounds_toArray, List.set_cons_zero, List.set_cons_succ])
    refine wpAnyH_take (i := 25) (v := ?_) rfl (by kernel_rfl) (by kernel_rfl) (by kernel_rfl) (fun _ _ _ h => h) (Or.inl ⟨by rfl, ?_⟩) (by assumption) ?_
    rotate_left
    · (intro w hSw; (try dsimp only at hSw); go_simp; try (with_reducible rfl))
    (try simp only [Act.put, List.getElem_toArray, List.getElem_cons_zero, List.getElem_cons_succ, List.setIfInBounds_toArray, List.set_cons_zero, List.set_cons_succ])
    refine wpAnyH_take (i := 26) (v := ?_) rfl (by kernel_rfl) (by kernel_rfl) (by kernel_rfl) (fun _ _ _ h => h) (Or.inl ⟨by rfl, ?_⟩) (by assumption) ?_
    rotate_left
    · (intro w hSw; (try dsimp only at hSw); go_simp; try (with_reducible rfl))
    (try simp only [Act.put, List.getElem_toArray, List.getElem_cons_zero, List.getElem_cons_succ, List.setIfInBounds_toArray, List.set_cons_zero, List.set_cons_succ])
    refine wpAnyH_take (i := 27) (v := ?_) rfl (by kernel_rfl) (by kernel_rfl) (by kernel_rfl) (fun _ _ _ h => h) (Or.inl ⟨by rfl, ?_⟩) (by assumption) ?_
    rotate_left
    · (intro w hSw; (try dsimp only at hSw); go_simp; try (with_reducible rfl))
    (try simp only [Act.put, List.getElem_toArray, List.getElem_cons_zero, List.getElem_cons_succ, List.setIfInBounds_toArray, List.set_cons_zero, List.set_cons_succ])
    refine wpAnyH_take (i := 28) (v := ?_) rfl (by kernel_rfl) (by kernel_rfl) (by kernel_rfl) (fun _ _ _ h => h) (Or.inl ⟨by rfl, ?_⟩) (by assumption) ?_
    rotate_left
    · (intro w hSw; (try dsimp only at hSw); go_simp; try (with_reducible rfl))
    (try simp only [Act.put, List.getElem_toArray, List.getElem_cons_zero, List.getElem_cons_succ, List.setIfInBounds_toArray, List.set_cons_zero, List.set_cons_succ])
    refine wpAnyH_ready (rs := [29]) (by kernel_rfl) (by simp) ?_
    refine AllReadyH.cons rfl (fun K hK => ?_) AllReadyH.nil
    go_simp
    refine (end_any E [] 0 _ HQB.out).mono ?_
    rintro e wy5 ⟨rfl, q', k'⟩
    have kh := hid (Kp.trans (S := Jb E) kh.out k' (fun _ _ h => h))
    clear q' k' HQB
    go_wp2_with fail
    refine hK.out _ _ ?_ (fun hHeld => ?_)
    · exact CBS.out _ kh.out
    clear hK K
    (try simp only [Act.put, List.getElem_toArray, List.getElem_cons_zero, List.getElem_cons_succ, List.setIfInBounds_toArray, List.set_cons_zero, List.set_cons_succ])
    refine wpAnyH_take (i := 30) (v := ?_) rfl (by kernel_rfl) (by kernel_rfl) (by kernel_rfl) (fun _ _ _ h => h) (Or.inl ⟨by rfl, ?_⟩) (by assumption) ?_
    rotate_left
    · (intro w hSw; (try dsimp only at hSw); go_simp; try (with_reducible rfl))
    (try simp only [Act.put, List.getElem_toArray, List.getElem_cons_zero, List.getElem_cons_succ, List.setIfInBounds_toArray, List.set_cons_zero, List.set_cons_succ])
    refine wpAnyH_take (i := 31) (v := ?_) rfl (by kernel_rfl) (by kernel_rfl) (by kernel_rfl) (fun _ _ _ h => h) (Or.inl ⟨by rfl, ?_⟩) (by assumption) ?_
    rotate_left
    · (intro w hSw; (try dsimp only at hSw); go_simp; try (with_reducible rfl))
    (try simp only [Act.put, List.getElem_toArray, List.getElem_cons_zero, List.getElem_cons_succ, List.setIfInBounds_toArray, List.set_cons_zero, List.set_cons_succ])
    refine wpAnyH_done (by kernel_rfl) ?_ _
    refine NoPanic.normal ?_
    have HP6 := hid (show PenAt wy5 B vp (numBytes U) from HP5.out.kept kh.out (fun h => HE1.out.2.1 h) (fun g hg h => HE2.out g hg h))
    have HQ6 := hid (show PenAt wy5 (B + 1) vq (numBytes V) from HQ5.out.kept kh.out (fun h => HE1.out.2.2 h) (fun g hg h => HE3.out g hg h))
    have KY := hid (KB.out.trans kh.out (fun i hi h => by have := HE1.out; unfold Jb at h; omega))
    clear HP5 HQ5 KB kh CBS hHeld R1 R2 R3 R4 RL3 RN HSZ HE2 HE3 HE1
    obtain ⟨SU, hSU⟩ : ∃ S, S = st (numBytes U) := ⟨_, rfl⟩
    obtain ⟨SV, hSV⟩ : ∃ S, S = st (numBytes V) := ⟨_, rfl⟩
    have bU := numBytes_bytes U HU.out.1 HU.out.2
    have bV := numBytes_bytes V HV.out.1 HV.out.2
    have hlt : Op.bytesLess SU.toList SV.toList = decide (U < V) := by rw [hSU, hSV, st_lt _ _ bU bV]; exact order_lt U V HU.out.1 HU.out.2 HV.out.1 HV.out.2
    have hsu : SU.size = sizeN U := by rw [hSU, st_size]; exact numBytes_size U
    have hsv : SV.size = sizeN V := by rw [hSV, st_size]; exact numBytes_size V
    have HSU := hid hSU
    have HSV := hid hSV
    have HLT := hid hlt
    have HSZU := hid hsu
    have HSZV := hid hsv
    clear hSU hSV bU bV hlt hsu hsv
    go_wp2_with fail
    refine wp_region_noPanic ?_
    refine wp_region_held_drew (S := fun _ => True) (by kernel_rfl) trivial (fun hHeld => ?_)
    refine wpAnyH_take (i := 0) (v := ?_) rfl (by kernel_rfl) (by kernel_rfl) (by kernel_rfl) (fun _ _ _ h => h) (Or.inl ⟨by rfl, ?_⟩) (by assumption) ?_
    rotate_left
    · (intro w hSw; (try dsimp only at hSw); go_simp; try (with_reducible rfl))
    (try simp only [Act.put, List.getElem_toArray, List.getElem_cons_zero, List.getElem_cons_succ, List.setIfInBounds_toArray, List.set_cons_zero, List.set_cons_succ])
    refine wpAnyH_take (i := 3) (v := ?_) rfl (by kernel_rfl) (by kernel_rfl) (by kernel_rfl) (fun _ _ _ h => h) (Or.inl ⟨by rfl, ?_⟩) (by assumption) ?_
    rotate_left
    · (intro w hSw; (try dsimp only at hSw); go_simp; try (with_reducible rfl))
    (try simp only [Act.put, List.getElem_toArray, List.getElem_cons_zero, List.getElem_cons_succ, List.setIfInBounds_toArray, List.set_cons_zero, List.set_cons_succ])
    refine wpAnyH_ready (rs := [1]) (by kernel_rfl) (by simp) ?_
    refine AllReadyH.cons rfl (fun K hK => ?_) AllReadyH.nil
    go_simp
    have HP7 := hid (HP6.out.kept (Kp.drew (Kp.refl Nb wy5)) (fun h => h) (fun _ _ h => h))
    refine (pen_bytes B vp _ _ HP7.out (by have := HL.out; omega)).mono ?_
    rintro e wz ⟨r1, rfl, o1, k1⟩
    have HB1 := hid (BySl.ofOwn (S := Nb) o1 HP6.out.bytes (fun _ _ _ h => h))
    have KZ := hid (KY.out.trans (Kp.trans (S := Nb) (Kp.drew (Kp.refl Nb wy5)) k1 (fun _ _ h => h)) (fun _ _ h => h))
    have HQ7 := hid (HQ6.out.kept (Kp.trans (S := Nb) (Kp.drew (Kp.refl Nb wy5)) k1 (fun _ _ h => h)) (fun h => h) (fun _ _ h => h))
    have hcv1 := conv_any HB1.out
    rw [← HSU.out] at hcv1
    clear o1 k1 HP6 HP7 HQ6 KY
    go_wp2_with fail
    refine hK.out _ _ trivial (fun hHeld => ?_)
    clear hK K hHeld
    refine held_mono (S' := fun w' => (convert 42 9 r1).run Try.prog w' = .ok (.string SU) w') (fun _ _ => trivial) _ _ _ _ ?_
    (try simp only [Act.put, List.getElem_toArray, List.getElem_cons_zero, List.getElem_cons_succ, List.setIfInBounds_toArray, List.set_cons_zero, List.set_cons_succ])
    refine wpAnyH_take (i := 2) (v := ?_) rfl (by kernel_rfl) (by kernel_rfl) (by kernel_rfl) (fun _ _ _ h => h) (Or.inl ⟨by rfl, ?_⟩) (by assumption) ?_
    rotate_left
    · (intro w hSw; (try dsimp only at hSw); go_simp; try (with_reducible rfl))
    (try simp only [Act.put, List.getElem_toArray, List.getElem_cons_zero, List.getElem_cons_succ, List.setIfInBounds_toArray, List.set_cons_zero, List.set_cons_succ])
    refine wpAnyH_ready (rs := [4]) (by kernel_rfl) (by simp) ?_
    refine AllReadyH.cons rfl (fun K hK => ?_) AllReadyH.nil
    go_simp
    refine (pen_bytes (B + 1) vq _ _ HQ7.out (by have := HL.out; omega)).mono ?_
    rintro e wv ⟨r2, rfl, o2, k2⟩
    have hcv2 := conv_any (BySl.ofOwn (S := Nb) o2 HQ7.out.bytes (fun _ _ _ h => h))
    rw [← HSV.out] at hcv2
    have hcv1b := conv_any (HB1.out.kept k2 (fun _ h => h))
    rw [← HSU.out] at hcv1b
    have KV := hid (KZ.out.trans k2 (fun _ _ h => h))
    clear o2 k2 HB1 HQ7 KZ hcv1
    go_wp2_with fail
    refine hK.out _ _ hcv1b (fun hHeld => ?_)
    clear hK K
    (try simp only [Act.put, List.getElem_toArray, List.getElem_cons_zero, List.getElem_cons_succ, List.setIfInBounds_toArray, List.set_cons_zero, List.set_cons_succ])
    refine wpAnyH_take (i := 6) (v := ?_) rfl (by kernel_rfl) (by kernel_rfl) (by kernel_rfl) (fun _ _ _ h => h) (Or.inl ⟨by rfl, ?_⟩) (by assumption) ?_
    rotate_left
    · (intro w hSw; (try dsimp only at hSw); go_simp; try (with_reducible rfl))
    (try simp only [Act.put, List.getElem_toArray, List.getElem_cons_zero, List.getElem_cons_succ, List.setIfInBounds_toArray, List.set_cons_zero, List.set_cons_succ])
    refine wpAnyH_ready (rs := [5]) (by kernel_rfl) (by simp) ?_
    refine AllReadyH.cons rfl (fun K hK => ?_) AllReadyH.nil
    go_simp
    refine hK.out _ _ ?_ (fun hHeld => ?_)
    · exact hcv1b
    clear hK K
    (try simp only [Act.put, List.getElem_toArray, List.getElem_cons_zero, List.getElem_cons_succ, List.setIfInBounds_toArray, List.set_cons_zero, List.set_cons_succ])
    refine wpAnyH_take (i := 7) (v := ?_) rfl (by kernel_rfl) (by kernel_rfl) (by kernel_rfl) (fun _ _ _ h => h) (Or.inl ⟨by rfl, ?_⟩) (by assumption) ?_
    rotate_left
    · (intro w hSw; (try dsimp only at hSw); go_simp; try (with_reducible rfl))
    (try simp only [Act.put, List.getElem_toArray, List.getElem_cons_zero, List.getElem_cons_succ, List.setIfInBounds_toArray, List.set_cons_zero, List.set_cons_succ])
    refine wpAnyH_done (by kernel_rfl) ?_ _
    refine NoPanic.normal ?_
    clear hcv2 hcv1b hHeld
    have hzz := RZ.out
    have hgg := zig_zag U HU.out.1 HU.out.2
    have zr := zag_range U HU.out.1 HU.out.2
    have hlt := HLT.out
    have hsu := HSZU.out
    have hsv := HSZV.out
    by_cases huv : U = V
    · subst huv
      have hss : SV = SU := by rw [HSU.out, HSV.out]
      subst hss
      go_wp2_with fail
      refine (zig_any N _).mono ?_
      rintro e wq ⟨rfl, rfl⟩
      go_wp2_with fail
      refine (zag_any (zigI N) _ HZG.out.1 HZG.out.2).mono ?_
      rintro e wq ⟨rfl, rfl⟩
      rw [hzz]
      go_wp2_with fail
      refine (zag_any U _ HU.out.1 HU.out.2).mono ?_
      rintro e wq ⟨rfl, rfl⟩
      go_wp2_with fail
      refine (zig_any (zagI U) _).mono ?_
      rintro e wq ⟨rfl, rfl⟩
      rw [hgg]
      go_wp2_with fail
      refine (size_any U _ HU.out.1 HU.out.2).mono ?_
      rintro e wq ⟨rfl, rfl⟩
      go_wp2
      go_ret
      exact ⟨rfl, KV.out⟩
    · have hUV : (U == V) = false := by rw [beq_eq_false_iff_ne]; exact huv
      have he : (SU.toList == SV.toList) = false := by rw [HSU.out, HSV.out, st_beq _ _ (numBytes_bytes U HU.out.1 HU.out.2) (numBytes_bytes V HV.out.1 HV.out.2)]; exact decide_eq_false (fun e => huv ((order_eq U V HU.out.1 HU.out.2 HV.out.1 HV.out.2).1 e))
      by_cases hgt : sizeN V < sizeN U
      · have hgt2 : ((sizeN V : Nat) : Int) < ((sizeN U : Nat) : Int) := by omega
        go_wp2_with fail
        refine (zig_any N _).mono ?_
        rintro e wq ⟨rfl, rfl⟩
        go_wp2_with fail
        refine (zag_any (zigI N) _ HZG.out.1 HZG.out.2).mono ?_
        rintro e wq ⟨rfl, rfl⟩
        rw [hzz]
        go_wp2_with fail
        refine (zag_any U _ HU.out.1 HU.out.2).mono ?_
        rintro e wq ⟨rfl, rfl⟩
        go_wp2_with fail
        refine (zig_any (zagI U) _).mono ?_
        rintro e wq ⟨rfl, rfl⟩
        rw [hgg]
        go_wp2_with fail
        refine (size_any U _ HU.out.1 HU.out.2).mono ?_
        rintro e wq ⟨rfl, rfl⟩
        go_wp2
        go_ret
        exact ⟨rfl, KV.out⟩
      · have hgt2 : ((sizeN U : Nat) : Int) ≤ ((sizeN V : Nat) : Int) := by omega
        have hgt3 : ¬ ((sizeN V : Nat) : Int) < ((sizeN U : Nat) : Int) := by omega
        have hx : ((SV.extract 0 (sizeN U)).toList == SU.toList) = false := by
          rw [HSV.out, HSU.out, ← numBytes_size U, st_take, st_beq _ _ ((numBytes_bytes V HV.out.1 HV.out.2).take _) (numBytes_bytes U HU.out.1 HU.out.2)]
          exact decide_eq_false (order_begin U V HU.out.1 HU.out.2 HV.out.1 HV.out.2 huv)
        go_wp2_with fail
        refine (zig_any N _).mono ?_
        rintro e wq ⟨rfl, rfl⟩
        go_wp2_with fail
        refine (zag_any (zigI N) _ HZG.out.1 HZG.out.2).mono ?_
        rintro e wq ⟨rfl, rfl⟩
        rw [hzz]
        go_wp2_with fail
        refine (zag_any U _ HU.out.1 HU.out.2).mono ?_
        rintro e wq ⟨rfl, rfl⟩
        go_wp2_with fail
        refine (zig_any (zagI U) _).mono ?_
        rintro e wq ⟨rfl, rfl⟩
        rw [hgg]
        go_wp2_with fail
        refine (size_any U _ HU.out.1 HU.out.2).mono ?_
        rintro e wq ⟨rfl, rfl⟩
        go_wp2
        go_ret
        exact ⟨rfl, KV.out⟩

end Go.Proofs.Ytfbpaakgifnmaaa
