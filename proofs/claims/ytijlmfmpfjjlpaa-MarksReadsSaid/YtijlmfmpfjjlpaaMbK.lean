/-
  Layer 9: ref09.Get. Conditions: an eye over bytes.
-/
import Derived.Test.YtijlmfmpfjjlpaaMbJ
import Derived.Test.YtijlmfmpfjjlpaaMaN
import Derived.Test.YtijlmfmpfjjlpaaMks
namespace Go.Proofs.Ytijlmfmpfjjlpaa
open Go.RowKit Go.Shelf

theorem fixN_okB (zs : List Int) (e n : Int) (hz : IsBytes zs) : IsBytes (fixN zs e n).1 ∧ IsBytes (fixN zs e n).2.1 := by
  have hn : IsBytes [] := fun i => by simp
  unfold fixN
  split
  · exact ⟨hn, hz⟩
  · split
    · exact ⟨hn, hn⟩
    · split
      · exact ⟨hn, hn⟩
      · exact ⟨hz.take _, hz.drop _⟩
theorem fixN_16 (zs : List Int) (e : Int) : (fixN zs e 16).1.length ≤ 16 := by
  have := fixN_le zs e 16 (by decide)
  omega
theorem readN_okM (zs : List Int) (e most : Int) (hz : IsBytes zs) : IsBytes (readN zs e most).2.1 := by
  have hn : IsBytes [] := fun i => by simp
  unfold readN
  split
  · exact hz
  · split
    · exact hn
    · split
      · exact hn
      · exact hz.drop _
theorem readN_topM (zs : List Int) (hz : IsBytes zs) : 0 ≤ (readN zs 0 4096).1 ∧ (readN zs 0 4096).1 ≤ 4096 ∧ ((readN zs 0 4096).2.2 ≠ 0 → (readN zs 0 4096).1 = 0) := by
  have hr := readN_range zs 0 4096 hz
  refine ⟨hr.1, ?_, ?_⟩
  · unfold readN
    split
    · show (0 : Int) ≤ 4096; decide
    · split
      · show (0 : Int) ≤ 4096; decide
      · split
        · show (0 : Int) ≤ 4096; decide
        · rename_i h
          show (firstOf zs).1 ≤ 4096
          omega
  · unfold readN
    split
    · intro _; rfl
    · split
      · intro _; rfl
      · split
        · intro _; rfl
        · intro h; exact absurd rfl h
theorem getL_err (k : Nat) (z : List Int) (out : List (List Int)) (h : (fixN z 0 16).2.2 ≠ 0) : finM (getL (k + 1) z 0 out) = ([], (fixN z 0 16).2.1, (fixN z 0 16).2.2) := by
  unfold getL
  rw [if_pos h]
  rfl
theorem getL_next (k : Nat) (z : List Int) (out : List (List Int)) (h : (fixN z 0 16).2.2 = 0) : getL (k + 1) z 0 out = getL k (fixN z 0 16).2.1 0 (out ++ [markOf (fixN z 0 16).1]) := by
  rw [getL, if_neg (by rw [h]; simp), h]
def RgmR (w1 : World) (E n : Nat) (R : Option (List (List Int)) × List Int × Int) (u i : Value) (wr : World) : Prop := ∃ (k : Nat) (out : List (List Int)) (z : List Int) (e : Int), k ≤ n ∧ i = .int .i64 k ∧ Hid (RefAt wr E z e) ∧ Hid (IsBytes z) ∧
  Hid (wr.ownsRow w1.heap.size 24 16 u out.length (flatR markL out)) ∧ Hid (∀ q ∈ out, MarkOk q) ∧ Hid (out.length ≤ k) ∧ Hid ((e = 0 ∧ getL (n - k) z 0 out = R) ∨ (e ≠ 0 ∧ finM R = ([], z, e))) ∧ Hid (Kp (Jb E) w1 wr)
set_option maxRecDepth 100000 in
set_option maxHeartbeats 4000000 in
theorem rgm_any (E : Nat) (zs : List Int) (w : World) (h : RefAt w E zs 0) (hz : IsBytes zs) :
    Calls Try.prog 31 #[.pointer (some ⟨E, 0, none⟩)] w fun r w' => ∃ v', r = .returned v' ∧ MkSl w' v' (getM zs 0).1 ∧ RefAt w' E (getM zs 0).2.1 (getM zs 0).2.2 ∧ Kp (Jb E) w w' := by
  have CN := hid (refi_number E zs 0 4096 w h hz)
  have ht := readN_topM zs hz
  have hbz := readN_okM zs 0 4096 hz
  have HG : Hid (getM zs 0 = finM (getL (readN zs 0 4096).1.toNat (readN zs 0 4096).2.1 (readN zs 0 4096).2.2 [])) := hid rfl
  obtain ⟨G, hG⟩ : ∃ G, getM zs 0 = G := ⟨_, rfl⟩
  rw [hG] at HG ⊢
  obtain ⟨⟨n0, z0, e0⟩, hr⟩ : ∃ r, readN zs 0 4096 = r := ⟨_, rfl⟩
  rw [hr] at CN ht hbz HG
  dsimp only at CN ht hbz HG
  obtain ⟨n, rfl⟩ : ∃ n : Nat, n0 = (n : Int) := ⟨n0.toNat, by omega⟩
  rw [Int.toNat_natCast] at HG
  obtain ⟨R, hR⟩ : ∃ R, getL n z0 e0 [] = R := ⟨_, rfl⟩
  rw [hR] at HG
  have HST : Hid ((e0 = 0 ∧ getL (n - 0) z0 0 [] = R) ∨ (e0 ≠ 0 ∧ finM R = ([], z0, e0))) := hid (by
    by_cases he : e0 = 0
    · left; exact ⟨he, by rw [Nat.sub_zero, ← hR, he]⟩
    · right
      refine ⟨he, ?_⟩
      have hn : n = 0 := by have := ht.2.2 he; omega
      rw [← hR, hn]
      rfl)
  have hn4 : n ≤ 4096 := by have := ht.2.1; omega
  have HN4 := hid hn4
  have HBZ := hid hbz
  have HELT : Hid (E < w.heap.size) := hid h.lt
  clear h hz ht hbz hG hr hR
  go_enter Try.func31, Try.ntmps31
  go_wp2_with fail
  refine CN.out.mono ?_
  rintro r w1 ⟨rfl, r1, k1⟩
  have HR1 := hid r1
  have K1 := hid k1
  have HEL1 : Hid (E < w1.heap.size) := hid r1.lt
  clear r1 k1 CN
  go_wp2_with fail
  go_loopw [4, 5] (RgmR w1 E n R) (fun _ i _ => n - (intOf i).toNat)
  case atStart => exact ⟨0, [], z0, e0, Nat.zero_le _, rfl, HR1, HBZ, hid ⟨by simp [flatR], .inl ⟨rfl, rfl⟩⟩, hid (by simp), hid (Nat.le_refl _), HST, hid (Kp.refl _ _)⟩
  case round =>
    clear HST HR1
    obtain ⟨k, out, z, e, hk, rfl, HE, HB, HO, HOK, HLN, HS, HK⟩ := hrel
    obtain ⟨a4, c4, rfl⟩ := own_shape HO.out
    have c0 := Blk.cell HE.out 0
    have c1 := Blk.cell HE.out 1
    simp only [List.getElem?_cons_zero, List.getElem?_cons_succ] at c0 c1
    have hn5 := HN4.out
    by_cases he : e = 0
    · subst he
      have HS0 : Hid (getL (n - k) z 0 out = R) := hid (by
        rcases HS.out with h | h
        · exact h.2
        · exact absurd rfl h.1)
      clear HS
      by_cases hlt : k < n
      · have HLT := hid hlt
        have CF := hid (refi_fixed E z 0 16 wr HE.out)
        have hob := fixN_okB z 0 16 HB.out
        have hfl := fixN_16 z 0
        have hne := fun h => getL_err (n - (k + 1)) z out h
        have hnx := fun h => getL_next (n - (k + 1)) z out h
        rw [show n - (k + 1) + 1 = n - k by omega, HS0.out] at hne hnx
        obtain ⟨⟨ys, z', e'⟩, hf⟩ : ∃ f, fixN z 0 16 = f := ⟨_, rfl⟩
        rw [hf] at CF hob hfl hne hnx
        dsimp only at CF hob hfl hne hnx
        have CM : Hid (∀ wx, Calls Try.prog 52 #[.string (st ys)] wx fun e w' => e = .returned (markV (markOf ys)) ∧ Kp Nb wx w') := hid (fun wx => rmk_any ys wx hob.1 hfl)
        have HMO : Hid (MarkOk (markOf ys)) := hid (markOf_ok hob.1 hfl)
        obtain ⟨q, hq⟩ : ∃ q, markOf ys = q := ⟨_, rfl⟩
        rw [hq] at CM HMO hnx
        have HST : Hid ((e' = 0 ∧ getL (n - (k + 1)) z' 0 (out ++ [q]) = R) ∨ (e' ≠ 0 ∧ finM R = ([], z', e'))) := hid (by
          by_cases h : e' = 0
          · exact .inl ⟨h, (hnx h).symm⟩
          · exact .inr ⟨h, hne h⟩)
        have HB' := hid hob.2
        clear hf hob hfl hne hnx hq
        go_wp2_with fail
        refine CF.out.mono ?_
        rintro r w4 ⟨rfl, r4, k4⟩
        have HE4 := hid r4
        have HK4 := hid (HK.out.trans k4 (fun _ _ h => h))
        have HO4 : Hid (w4.ownsRow w1.heap.size 24 16 (.slice a4 out.length c4) out.length (flatR markL out)) := hid (ownsRow_same HO.out (fun g hg => by
          obtain ⟨h1, o, ho, -⟩ := row_cells HO.out hg
          exact k4.heap (Array.getElem?_eq_some_iff.1 ho).1 (fun h => by have : g = E := h; have := HEL1.out; omega)))
        clear r4 k4 c0 c1 CF
        go_wp2_with fail
        refine (CM.out w4).mono ?_
        rintro r w5 ⟨rfl, k5⟩
        have HE5 := hid (HE4.out.kept k5 (fun h => h))
        have HK5 := hid (HK4.out.trans k5 (fun _ _ h => h.elim))
        have HO5 := hid (ownsRow_kp HO4.out k5)
        have MK9 := hid (make_mark1 q HMO.out.len w5)
        obtain ⟨i0, zz, hi, hz0, hz1, hz2, hz3⟩ := mark_info3
        have B2 : Hid (out.length + [q].length ≤ maxLen ∧ (out.length + [q].length) * 16 ≤ 140737488355328 ∧ w1.heap.size ≤ (w5.alloc (.cells (markL q).toArray 24 (0, 0))).heap.size) := hid (by
          have h1 := HK5.out.size
          have h2 := ((Kp.refl Nb w5).alloc (.cells (markL q).toArray 24 (0, 0))).size
          refine ⟨?_, ?_, Nat.le_trans h1 h2⟩ <;> rw [List.length_singleton]
          · unfold maxLen; have := HLN.out; omega
          · have := HLN.out; omega)
        clear k5 CM
        go_wp2_with (first
          | (refine wpList_val (by rfl) _ _ (exec_buildSlice rfl (qs := #[(0, markV q)]) (by simp [Act.eval, Act.put]) MK9.out) ?_)
          | (at_builtin; refine wpList_append_rows (f := markL) (z := List.replicate 16 0) (c := 16) rfl _ _ 22 rfl w1.heap.size 24 i0 zz 16 Try.underlying22 hi hz0 hz1 hz2 hz3 (by decide) _ _ _ rfl (ownsRow_kp HO5.out ((Kp.refl Nb _).alloc _)) _ [q] rfl (rows_one (Blk.new _ _ _)) (fun x hx => by rw [List.mem_singleton.1 hx, markL_length, HMO.out.len]) (fun x _ => markL_one x) B2.out.1 B2.out.2.1 B2.out.2.2 ?_))
        intro v10 w10 hown hgrow
        have kx : Kp (fun i => w1.heap.size ≤ i) w5 w10 := ((Kp.refl (fun i => w1.heap.size ≤ i) w5).alloc (.cells (markL q).toArray 24 (0, 0))).grown hgrow (fun g hg h => (row_cells HO5.out hg).1)
        have HE10 := hid (HE5.out.kept kx (fun h => by have := HEL1.out; omega))
        have HK10 : Hid (Kp (Jb E) w1 w10) := hid (HK5.out.trans kx (fun i hi h => by have : w1.heap.size ≤ i := h; omega))
        have HO10 : Hid (w10.ownsRow w1.heap.size 24 16 v10 (out ++ [q]).length (flatR markL (out ++ [q]))) := hid (by rw [List.length_append, flatR_append]; exact hown)
        obtain ⟨a10, c10, rfl⟩ := own_shape hown
        have RE : Hid (RgmR w1 E n R (.slice a10 (out.length + [q].length) c10) (.int .i64 ((k : Int) + 1)) w10) := hid ⟨k + 1, out ++ [q], z', e', HLT.out, by go_num, HE10, HB', HO10, hid (fun x hx => by
          rcases List.mem_append.1 hx with hx | hx
          · exact HOK.out x hx
          · rw [List.mem_singleton.1 hx]; exact HMO.out), hid (by rw [List.length_append, List.length_singleton]; have := HLN.out; omega), HST, HK10⟩
        clear hown hgrow HK10 HE10 HO10 kx
        go_wp2
        go_roundw
        case rel => exact RE.out
        case measure => have := HLT.out; simp [intOf]; omega
      · obtain rfl : k = n := by omega
        have HRS : Hid (R = (some out, z, 0)) := hid (by have := HS0.out; rw [Nat.sub_self] at this; exact this.symm)
        have HM : Hid (MkSl wr (.slice a4 out.length c4) out) := hid (mk_of_rows (rows_owned (f := markL) (z := List.replicate 16 0) HO.out (fun q hq => by rw [markL_length, (HOK.out q hq).len])) HOK.out)
        have CR := hid (rset_any _ out wr HM.out (by have := HLN.out; omega))
        obtain ⟨rb, hrb⟩ : ∃ b, rightB out = b := ⟨_, rfl⟩
        have HG2 : Hid (G = if rb then (out, z, 0) else ([], failS z 0 11, failE 0 11)) := hid (by rw [HG.out, HRS.out, ← hrb]; rfl)
        rw [hrb] at CR
        clear hrb HS0
        go_wp2_with fail
        refine CR.out.mono ?_
        rintro r w5 ⟨rfl, k5⟩
        have HE5 := hid (HE.out.kept k5 (fun h => h))
        have HK5 := hid (HK.out.trans k5 (fun _ _ h => h.elim))
        have HM5 := hid (HM.out.kept k5)
        have c0 := Blk.cell HE5.out 0
        have c1 := Blk.cell HE5.out 1
        simp only [List.getElem?_cons_zero, List.getElem?_cons_succ] at c0 c1
        have KE : Hid (Kp (Jb E) w w5) := hid (K1.out.trans HK5.out (fun _ _ h => h))
        clear k5 CR
        cases rb with
        | true =>
          go_wp2
          go_ret
          have hG : G = (out, z, 0) := HG2.out
          rw [hG]
          exact ⟨_, rfl, HM5.out, HE5.out, KE.out⟩
        | false =>
          have CX := hid (refi_fail E z 0 11 w5 HE5.out)
          clear c0 c1
          go_wp2_with fail
          refine CX.out.mono ?_
          rintro r w6 ⟨rfl, r6, k6⟩
          have HE6 := hid r6
          have KE6 := hid (KE.out.trans k6 (fun _ _ h => h))
          have c0 := Blk.cell HE6.out 0
          have c1 := Blk.cell HE6.out 1
          have hfe : failE 0 11 = 11 := rfl
          simp only [List.getElem?_cons_zero, List.getElem?_cons_succ] at c0 c1
          rw [hfe] at c1
          clear r6 k6 CX
          go_wp2
          go_ret
          have hG : G = ([], failS z 0 11, failE 0 11) := HG2.out
          rw [hG]
          exact ⟨_, rfl, nil_sl _, HE6.out, KE6.out⟩
    · have HS0 : Hid (finM R = ([], z, e)) := hid (by
        rcases HS.out with h | h
        · exact absurd h.1 he
        · exact h.2)
      have KE : Hid (Kp (Jb E) w wr) := hid (K1.out.trans HK.out (fun _ _ h => h))
      have HE' := HE
      by_cases hlt : k < n
      · go_wp2
        go_ret
        rw [HG.out, HS0.out]
        exact ⟨_, rfl, nil_sl _, HE'.out, KE.out⟩
      · go_wp2
        go_ret
        rw [HG.out, HS0.out]
        exact ⟨_, rfl, nil_sl _, HE'.out, KE.out⟩

end Go.Proofs.Ytijlmfmpfjjlpaa
