/-
  Layer 2: walks of the eye: Signed, take, Fixed, Text. Conditions: fewer than 2^47 bytes.
-/
import Derived.Test.YtpgiinogfmhfiaaPenB
namespace Go.Proofs.Ytpgiinogfmhfiaa
open Go.RowKit

theorem firstOf_range (zs : List Int) (hz : IsBytes zs) : 0 ≤ (firstOf zs).1 ∧ (firstOf zs).1 < 18446744073709551616 := by
  unfold firstOf
  have h0 := hz 0
  have h1 := beTo_range (zs.drop 1) (zs[0]?.getD 0 - 247).toNat
  split
  · exact ⟨Int.le_refl _, by show (0 : Int) < _; decide⟩
  · split
    · exact ⟨h0.1, by show zs[0]?.getD 0 < _; omega⟩
    · split
      · exact ⟨Int.le_refl _, by show (0 : Int) < _; decide⟩
      · split
        · exact h1
        · exact ⟨Int.le_refl _, by show (0 : Int) < _; decide⟩
theorem readN_range (zs : List Int) (e most : Int) (hz : IsBytes zs) : 0 ≤ (readN zs e most).1 ∧ (readN zs e most).1 < 18446744073709551616 := by
  have h := firstOf_range zs hz
  unfold readN
  split
  · exact ⟨Int.le_refl _, by show (0 : Int) < _; decide⟩
  · split
    · exact ⟨Int.le_refl _, by show (0 : Int) < _; decide⟩
    · split
      · exact ⟨Int.le_refl _, by show (0 : Int) < _; decide⟩
      · exact h
theorem readN_left (zs : List Int) (e most : Int) : (readN zs e most).2.1.length ≤ zs.length := by
  unfold readN
  split
  · exact Nat.le_refl _
  · split
    · exact Nat.zero_le _
    · split
      · exact Nat.zero_le _
      · show (zs.drop _).length ≤ _
        rw [List.length_drop]; omega


set_option maxRecDepth 100000 in
set_option maxHeartbeats 400000 in
theorem take_any (B : Nat) (zs : List Int) (e : Int) (n : Nat) (w : World) (h : EyeAt w B zs e) (hn : n ≤ zs.length) (hbig : zs.length ≤ 140737488355328) :
    Calls Try.prog 54 #[.pointer (some ⟨B, 0, none⟩), .int .i64 n] w fun r w' => (∃ v', r = .returned v' ∧ BySl (Jb B) w' v' (zs.take n)) ∧ EyeAt w' B (zs.drop n) e ∧ Kp (Jb B) w w' := by
  have hlt := h.lt
  obtain ⟨v, hb, hv⟩ := h
  have c0 := hb.cell 0
  simp only [List.getElem?_cons_zero] at c0
  obtain ⟨x1, d1, t1, b1⟩ := hv.cutH n hn
  obtain ⟨x2, d2, t2, b2⟩ := hv.cutL n hn
  have HB := hid hb
  have H1 := hid b1
  have H2 := hid b2
  have hl : (zs.take n).length ≤ 140737488355328 := by rw [List.length_take]; omega
  have HL := hid hl
  have HLT := hid hlt
  clear hb hv b1 b2 hl hbig hlt hn
  go_enter Try.func54, Try.ntmps54
  go_wp2_with fail
  refine (clone_any _ (zs.take n) _ H1.out HL.out).mono ?_
  rintro r w1 ⟨v', rfl, ho, k1⟩
  obtain ⟨xo, co, rfl⟩ := own_slice ho
  have hb1 := HB.out.kept k1 (fun h => h)
  have c1 := hb1.cell 0
  simp only [List.getElem?_cons_zero] at c1
  have f1 := hb1.frozen 0
  have HB1 := hid hb1
  have hv1 : BySl (Jb B) w1 (.slice xo (zs.take n).length co) (zs.take n) := (BySl.ofOwn ho H1.out.1 (fun k hk _ h => by unfold Jb at h; have := HLT.out; omega))
  rw [List.length_take] at hv1
  have HV1 := hid hv1
  clear hv1
  have HV2 := hid (H2.out.kept (S' := Nb) k1 (fun _ h => absurd h (fun h => h)))
  have K1 := hid (k1.mono (S' := Jb B) (fun _ _ h => absurd h (fun h => h)))
  clear ho k1 hb1 c0
  go_wp2
  go_ret
  refine ⟨⟨_, rfl, ?_⟩, ⟨_, HB1.out.set 0 _, ?_⟩, K1.out.set 0 _⟩
  · exact HV1.out.kept ((Kp.refl (Jb B) _).set 0 _) (fun _ h => h)
  · exact HV2.out.kept ((Kp.refl (Jb B) _).set 0 _) (fun _ h => h)

/-- What Fixed(n) answers, what is left, the error. -/
def fixN (zs : List Int) (e n : Int) : List Int × List Int × Int :=
  if e ≠ 0 then ([], zs, e)
  else if n < 0 then ([], [], 2)
  else if (zs.length : Int) < n then ([], [], 10)
  else (zs.take n.toNat, zs.drop n.toNat, 0)

theorem BySl.none {S : Nat → Prop} (w : World) : BySl S w (.slice none 0 0) [] := ⟨fun i => by simp, .inl ⟨⟨_, _, rfl⟩, rfl⟩⟩

set_option maxRecDepth 100000 in
set_option maxHeartbeats 400000 in
theorem fixed_any (B : Nat) (zs : List Int) (e n : Int) (w : World) (h : EyeAt w B zs e) (hbig : zs.length ≤ 140737488355328) :
    Calls Try.prog 41 #[.pointer (some ⟨B, 0, none⟩), .int .i64 n] w fun r w' => (∃ v', r = .returned v' ∧ BySl (Jb B) w' v' (fixN zs e n).1) ∧ EyeAt w' B (fixN zs e n).2.1 (fixN zs e n).2.2 ∧ Kp (Jb B) w w' := by
  have H := hid h
  obtain ⟨v, hb, hv⟩ := h
  have c0 := hb.cell 0
  simp only [List.getElem?_cons_zero] at c0
  obtain ⟨x, c, rfl⟩ : ∃ x c, v = .slice x zs.length c := by
    rcases hv.2 with ⟨⟨a, c, rfl⟩, rfl⟩ | ⟨blk, off, cap, rfl, -⟩
    · exact ⟨a, c, rfl⟩
    · exact ⟨_, _, rfl⟩
  clear hb hv
  obtain ⟨R, hR⟩ : ∃ R, R = fixN zs e n := ⟨_, rfl⟩
  rw [← hR]
  have HR := hid hR
  clear hR
  unfold fixN at HR
  have HBIG := hid hbig
  clear hbig
  by_cases he : e = 0
  · subst he
    have HR2 := HR.out.trans (if_neg (fun h => h rfl))
    by_cases hn : n < 0
    · rw [if_pos hn] at HR2
      subst HR2
      clear HR
      go_enter Try.func41, Try.ntmps41
      go_wp2_with fail
      refine (err_any B zs 0 _ H.out).mono ?_
      rintro r w1 ⟨rfl, rfl⟩
      go_wp2_with fail
      refine (fail_any B zs 0 2 _ H.out).mono ?_
      rintro r w2 ⟨rfl, h2, k2⟩
      have H2 := hid h2
      have K2 := hid k2
      clear h2 k2
      go_wp2
      go_ret
      exact ⟨⟨_, rfl, BySl.none _⟩, H2.out, K2.out⟩
    · rw [if_neg hn] at HR2
      by_cases hl : (zs.length : Int) < n
      · rw [if_pos hl] at HR2
        subst HR2
        clear HR
        go_enter Try.func41, Try.ntmps41
        go_wp2_with fail
        refine (err_any B zs 0 _ H.out).mono ?_
        rintro r w1 ⟨rfl, rfl⟩
        go_wp2_with fail
        refine (fail_any B zs 0 10 _ H.out).mono ?_
        rintro r w2 ⟨rfl, h2, k2⟩
        have H2 := hid h2
        have K2 := hid k2
        clear h2 k2
        go_wp2
        go_ret
        exact ⟨⟨_, rfl, BySl.none _⟩, H2.out, K2.out⟩
      · rw [if_neg hl] at HR2
        subst HR2
        clear HR
        obtain ⟨m, rfl⟩ := Int.eq_ofNat_of_zero_le (show 0 ≤ n by omega)
        rw [Int.toNat_natCast]
        go_enter Try.func41, Try.ntmps41
        go_wp2_with fail
        refine (err_any B zs 0 _ H.out).mono ?_
        rintro r w1 ⟨rfl, rfl⟩
        go_wp2_with fail
        refine (take_any B zs 0 m _ H.out (by omega) HBIG.out).mono ?_
        rintro r w2 ⟨⟨v', rfl, h3⟩, h2, k2⟩
        have H2 := hid h2
        have H3 := hid h3
        have K2 := hid k2
        clear h2 k2 h3
        go_wp2
        go_ret
        exact ⟨⟨_, rfl, H3.out⟩, H2.out, K2.out⟩
  · have HR2 := HR.out.trans (if_pos he)
    subst HR2
    clear HR
    have g1 : (e != 0) = true := by rw [bne_iff_ne]; exact he
    clear he
    go_enter Try.func41, Try.ntmps41
    go_wp2_with fail
    refine (err_any B zs e _ H.out).mono ?_
    rintro r w1 ⟨rfl, rfl⟩
    go_wp2
    go_ret
    exact ⟨⟨_, rfl, BySl.none _⟩, H.out, Kp.refl _ _⟩

/-- What Text(most) answers, what is left, the error. -/
def textN (zs : List Int) (e most : Int) : List Int × List Int × Int :=
  if (readN zs e 18446744073709551615).2.2 ≠ 0 then ([], (readN zs e 18446744073709551615).2.1, (readN zs e 18446744073709551615).2.2)
  else if most < 0 ∨ most < (readN zs e 18446744073709551615).1 then ([], [], 12)
  else fixN (readN zs e 18446744073709551615).2.1 0 (readN zs e 18446744073709551615).1


end Go.Proofs.Ytpgiinogfmhfiaa
