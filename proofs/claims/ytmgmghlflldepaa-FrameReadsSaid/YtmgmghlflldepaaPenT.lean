/-
  Layer 2: take, Fixed, Text of the eye once more: what they answer lies in a block of bytes. Conditions: fewer than 2^47 bytes. (Printed by gen_pent.py.)
-/
import Derived.Test.YtmgmghlflldepaaPenC
import Derived.Test.YtmgmghlflldepaaColl
namespace Go.Proofs.Ytmgmghlflldepaa
open Go.RowKit

/-- What a slice's own block is: a block of bytes. -/
def T8 (w : World) (v : Value) : Prop := ∀ g, v.ownBlock = some g → ∃ cs fr, w.heap[g]? = some (.cells cs 5 fr)
theorem T8.nil (w : World) : T8 w (.slice none 0 0) := fun g h => by simp [Value.ownBlock] at h
theorem T8.own {w : World} {base n : Nat} {v : Value} {xs : List Value} (h : w.ownsRow base 5 1 v n xs) : T8 w v := by
  intro g hg
  rcases h.2 with ⟨rfl, _⟩ | ⟨g', cap, cur, rfl, _, hh, _⟩
  · simp [Value.ownBlock] at hg
  · have e : g' = g := by simpa [Value.ownBlock] using hg
    subst e
    exact ⟨cur, _, hh⟩
theorem T8.set {w : World} {v : Value} (h : T8 w v) {B : Nat} (hn : ∀ g, v.ownBlock = some g → B < g) (u : Value) : T8 (w.setCell ⟨B, 0, none⟩ u) v := fun g hg => by
  obtain ⟨cs, fr, e⟩ := h g hg
  exact ⟨cs, fr, (Below.heap_setCell _ _ _ _ (by have := hn g hg; intro e; dsimp only at e; omega)).trans e⟩
theorem T8.kept {S : Nat → Prop} {w w' : World} {v : Value} (h : T8 w v) (k : Kp S w w') (hS : ∀ g, v.ownBlock = some g → ¬ S g) : T8 w' v := fun g hg => by
  obtain ⟨cs, fr, e⟩ := h g hg
  exact ⟨cs, fr, (k.heap (Array.getElem?_eq_some_iff.1 e).1 (hS g hg)).trans e⟩

set_option maxRecDepth 100000 in
set_option maxHeartbeats 400000 in
theorem take_t (B : Nat) (zs : List Int) (e : Int) (n : Nat) (w : World) (h : EyeAt w B zs e) (hn : n ≤ zs.length) (hbig : zs.length ≤ 140737488355328) :
    Calls Try.prog 51 #[.pointer (some ⟨B, 0, none⟩), .int .i64 n] w fun r w' => (∃ v', r = .returned v' ∧ BySl (Jb B) w' v' (zs.take n) ∧ T8 w' v') ∧ EyeAt w' B (zs.drop n) e ∧ Kp (Jb B) w w' := by
  have hlt := h.lt
  obtain ⟨v, hb, hv⟩ := h
  have c0 := hb.cell 0
  simp only [List.getElem?_cons_zero] at c0
  obtain ⟨x1, d1, t1, b1⟩ := hv.cutH n hn
  obtain ⟨x2, d2, t2, b2⟩ := hv.cutL n hn
  have HB := hid hb
  have H1 := hid b1
  have H2 := hid b2
  have hl : (zs.take n).length ≤ 140737488355328 := by rw [List.length_take]; omega
  have HL := hid hl
  have HLT := hid hlt
  clear hb hv b1 b2 hl hbig hlt hn
  go_enter Try.func51, Try.ntmps51
  go_wp2_with fail
  refine (clone_any _ (zs.take n) _ H1.out HL.out).mono ?_
  rintro r w1 ⟨v', rfl, ho, k1⟩
  obtain ⟨xo, co, rfl⟩ := own_slice ho
  have hb1 := HB.out.kept k1 (fun h => h)
  have c1 := hb1.cell 0
  simp only [List.getElem?_cons_zero] at c1
  have f1 := hb1.frozen 0
  have HB1 := hid hb1
  have HT1 : Hid (∀ u, T8 (w1.setCell ⟨B, 0, none⟩ u) (.slice xo (zs.take n).length co)) := hid (fun u => T8.set (T8.own ho) (fun g hg => by have := (row_cells ho hg).1; have := HLT.out; omega) u)
  rw [List.length_take] at HT1
  have hv1 : BySl (Jb B) w1 (.slice xo (zs.take n).length co) (zs.take n) := (BySl.ofOwn ho H1.out.1 (fun k hk _ h => by unfold Jb at h; have := HLT.out; omega))
  rw [List.length_take] at hv1
  have HV1 := hid hv1
  clear hv1
  have HV2 := hid (H2.out.kept (S' := Nb) k1 (fun _ h => absurd h (fun h => h)))
  have K1 := hid (k1.mono (S' := Jb B) (fun _ _ h => absurd h (fun h => h)))
  clear ho k1 hb1 c0
  go_wp2
  go_ret
  refine ⟨⟨_, rfl, ?_⟩, ⟨_, HB1.out.set 0 _, ?_⟩, K1.out.set 0 _⟩
  · exact ⟨HV1.out.kept ((Kp.refl (Jb B) _).set 0 _) (fun _ h => h), HT1.out _⟩
  · exact HV2.out.kept ((Kp.refl (Jb B) _).set 0 _) (fun _ h => h)

set_option maxRecDepth 100000 in
set_option maxHeartbeats 400000 in
theorem fixed_t (B : Nat) (zs : List Int) (e n : Int) (w : World) (h : EyeAt w B zs e) (hbig : zs.length ≤ 140737488355328) :
    Calls Try.prog 39 #[.pointer (some ⟨B, 0, none⟩), .int .i64 n] w fun r w' => (∃ v', r = .returned v' ∧ BySl (Jb B) w' v' (fixN zs e n).1 ∧ T8 w' v') ∧ EyeAt w' B (fixN zs e n).2.1 (fixN zs e n).2.2 ∧ Kp (Jb B) w w' := by
  have H := hid h
  obtain ⟨v, hb, hv⟩ := h
  have c0 := hb.cell 0
  simp only [List.getElem?_cons_zero] at c0
  obtain ⟨x, c, rfl⟩ : ∃ x c, v = .slice x zs.length c := by
    rcases hv.2 with ⟨⟨a, c, rfl⟩, rfl⟩ | ⟨blk, off, cap, rfl, -⟩
    · exact ⟨a, c, rfl⟩
    · exact ⟨_, _, rfl⟩
  clear hb hv
  obtain ⟨R, hR⟩ : ∃ R, R = fixN zs e n := ⟨_, rfl⟩
  rw [← hR]
  have HR := hid hR
  clear hR
  unfold fixN at HR
  have HBIG := hid hbig
  clear hbig
  by_cases he : e = 0
  · subst he
    have HR2 := HR.out.trans (if_neg (fun h => h rfl))
    by_cases hn : n < 0
    · rw [if_pos hn] at HR2
      subst HR2
      clear HR
      go_enter Try.func39, Try.ntmps39
      go_wp2_with fail
      refine (err_any B zs 0 _ H.out).mono ?_
      rintro r w1 ⟨rfl, rfl⟩
      go_wp2_with fail
      refine (fail_any B zs 0 2 _ H.out).mono ?_
      rintro r w2 ⟨rfl, h2, k2⟩
      have H2 := hid h2
      have K2 := hid k2
      clear h2 k2
      go_wp2
      go_ret
      exact ⟨⟨_, rfl, BySl.none _, T8.nil _⟩, H2.out, K2.out⟩
    · rw [if_neg hn] at HR2
      by_cases hl : (zs.length : Int) < n
      · rw [if_pos hl] at HR2
        subst HR2
        clear HR
        go_enter Try.func39, Try.ntmps39
        go_wp2_with fail
        refine (err_any B zs 0 _ H.out).mono ?_
        rintro r w1 ⟨rfl, rfl⟩
        go_wp2_with fail
        refine (fail_any B zs 0 10 _ H.out).mono ?_
        rintro r w2 ⟨rfl, h2, k2⟩
        have H2 := hid h2
        have K2 := hid k2
        clear h2 k2
        go_wp2
        go_ret
        exact ⟨⟨_, rfl, BySl.none _, T8.nil _⟩, H2.out, K2.out⟩
      · rw [if_neg hl] at HR2
        subst HR2
        clear HR
        obtain ⟨m, rfl⟩ := Int.eq_ofNat_of_zero_le (show 0 ≤ n by omega)
        rw [Int.toNat_natCast]
        go_enter Try.func39, Try.ntmps39
        go_wp2_with fail
        refine (err_any B zs 0 _ H.out).mono ?_
        rintro r w1 ⟨rfl, rfl⟩
        go_wp2_with fail
        refine (take_t B zs 0 m _ H.out (by omega) HBIG.out).mono ?_
        rintro r w2 ⟨⟨v', rfl, h3⟩, h2, k2⟩
        have H2 := hid h2
        have H3 := hid h3
        have K2 := hid k2
        clear h2 k2 h3
        go_wp2
        go_ret
        exact ⟨⟨_, rfl, H3.out⟩, H2.out, K2.out⟩
  · have HR2 := HR.out.trans (if_pos he)
    subst HR2
    clear HR
    have g1 : (e != 0) = true := by rw [bne_iff_ne]; exact he
    clear he
    go_enter Try.func39, Try.ntmps39
    go_wp2_with fail
    refine (err_any B zs e _ H.out).mono ?_
    rintro r w1 ⟨rfl, rfl⟩
    go_wp2
    go_ret
    exact ⟨⟨_, rfl, BySl.none _, T8.nil _⟩, H.out, Kp.refl _ _⟩

set_option maxRecDepth 100000 in
set_option maxHeartbeats 400000 in
theorem text_t (B : Nat) (zs : List Int) (e most : Int) (w : World) (h : EyeAt w B zs e) (hbig : zs.length ≤ 140737488355328) (hm0 : -9223372036854775808 ≤ most) (hm1 : most < 9223372036854775808) :
    Calls Try.prog 42 #[.pointer (some ⟨B, 0, none⟩), .int .i64 most] w fun r w' => (∃ v', r = .returned v' ∧ BySl (Jb B) w' v' (textN zs e most).1 ∧ T8 w' v') ∧ EyeAt w' B (textN zs e most).2.1 (textN zs e most).2.2 ∧ Kp (Jb B) w w' := by
  have hrng : 0 ≤ (readN zs e 18446744073709551615).1 ∧ (readN zs e 18446744073709551615).1 < 18446744073709551616 := by
    obtain ⟨v, _, hv⟩ := h
    exact readN_range zs e _ hv.1
  have hleft := readN_left zs e 18446744073709551615
  have H := hid h
  obtain ⟨R, hR⟩ : ∃ R, R = textN zs e most := ⟨_, rfl⟩
  rw [← hR]
  have HR := hid hR
  clear hR h
  unfold textN at HR
  go_enter Try.func42, Try.ntmps42
  go_wp2_with fail
  refine (number_any B zs e _ _ H.out).mono ?_
  rintro r w1 ⟨rfl, h1, k1⟩
  obtain ⟨⟨U, L, E⟩, hF⟩ : ∃ F, F = readN zs e 18446744073709551615 := ⟨_, rfl⟩
  rw [← hF] at HR hrng hleft h1 ⊢
  clear hF
  simp only at HR hrng hleft h1
  have HLE := hid (Nat.le_trans hleft hbig)
  have H1 := hid h1
  have K1 := hid k1
  clear h1 k1 hleft hbig
  go_wp2_with fail
  refine (err_any B L E _ H1.out).mono ?_
  rintro r w2 ⟨rfl, rfl⟩
  by_cases hE : E = 0
  · subst hE
    have HR2 := HR.out.trans (if_neg (fun h => h rfl))
    clear HR
    by_cases hm : most < 0 ∨ most < U
    · rw [if_pos hm] at HR2
      subst HR2
      by_cases hm2 : most < 0
      · go_wp2_with fail
        refine (fail_any B L 0 12 _ H1.out).mono ?_
        rintro r w3 ⟨rfl, h2, k2⟩
        have H2 := hid h2
        have K2 := hid (K1.out.trans k2 (fun _ _ h => h))
        clear h2 k2
        go_wp2
        go_ret
        exact ⟨⟨_, rfl, BySl.none _, T8.nil _⟩, H2.out, K2.out⟩
      · have hm3 : most < U := hm.resolve_left hm2
        have hm4 : 0 ≤ most := by omega
        have hw : IntKind.u64.wrap most = most := IntWalk.u64_in _ (by omega)
        clear hm hm2
        go_wp2_with fail
        refine (fail_any B L 0 12 _ H1.out).mono ?_
        rintro r w3 ⟨rfl, h2, k2⟩
        have H2 := hid h2
        have K2 := hid (K1.out.trans k2 (fun _ _ h => h))
        clear h2 k2
        go_wp2
        go_ret
        exact ⟨⟨_, rfl, BySl.none _, T8.nil _⟩, H2.out, K2.out⟩
    · rw [if_neg hm] at HR2
      subst HR2
      have hm4 : 0 ≤ most := by omega
      have hm5 : ¬ most < U := by omega
      have hm6 : U ≤ most := by omega
      have hw : IntKind.u64.wrap most = most := IntWalk.u64_in _ (by omega)
      have hw2 : wrap64 U = U := by unfold wrap64; omega
      clear hm
      go_wp2_with fail
      refine (fixed_t B L 0 U _ H1.out HLE.out).mono ?_
      rintro r w3 ⟨⟨v', rfl, h3⟩, h2, k2⟩
      have H2 := hid h2
      have H3 := hid h3
      have K2 := hid (K1.out.trans k2 (fun _ _ h => h))
      clear h2 k2 h3
      go_wp2
      go_ret
      exact ⟨⟨_, rfl, H3.out⟩, H2.out, K2.out⟩
  · have HR2 := HR.out.trans (if_pos hE)
    subst HR2
    clear HR
    have g1 : (E != 0) = true := by rw [bne_iff_ne]; exact hE
    clear hE
    go_wp2
    go_ret
    exact ⟨⟨_, rfl, BySl.none _, T8.nil _⟩, H1.out, K1.out⟩

end Go.Proofs.Ytmgmghlflldepaa
