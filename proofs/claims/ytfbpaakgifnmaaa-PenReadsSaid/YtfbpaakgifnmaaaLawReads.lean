/-
  The statement of layer 2 on what eyes read: what is read, and each error, are the document's. The walk. Conditions: what numbers of these types are.
-/
import Derived.Test.YtfbpaakgifnmaaaEyeN
import Derived.Deep.CutBlock
import Derived.Deep.DeepCutAuto
namespace Go.Proofs.Ytfbpaakgifnmaaa
open Go.RowKit

def Two (E X : Nat) : Nat → Prop := fun k => k = E ∨ k = X

/-- Two eyes that have the same. -/
def Both (w : World) (E X : Nat) (zs : List Int) (er : Int) : Prop := zs.length ≤ 3000 ∧ IsBytes zs ∧ EyeAt w E zs er ∧ RefAt w X zs er
def OpenR (w1 : World) (zs : List Int) (s5 s6 : Value) (wx : World) : Prop :=
  ∃ E X, s5 = .pointer (some ⟨E, 0, none⟩) ∧ s6 = .pointer (some ⟨X, 0, none⟩) ∧ Hid (E ≠ X ∧ w1.heap.size ≤ E ∧ w1.heap.size ≤ X) ∧ Hid (Both wx E X zs 0) ∧ Hid (Kp Nb w1 wx)
def ReadC (E X : Nat) (wB wx : World) : Prop := ∃ zs er, Hid (Both wx E X zs er) ∧ Hid (Kp (Two E X) wB wx)
def ReadR (w : World) (E X n : Nat) (i : Value) (wr : World) : Prop :=
  ∃ (j : Nat) (zs : List Int) (er : Int), j ≤ n ∧ i = .int .i64 j ∧ Hid (Both wr E X zs er) ∧ Hid (Kp Nb w wr)

theorem readN_bytes (zs : List Int) (e most : Int) (h : IsBytes zs) : IsBytes (readN zs e most).2.1 := by
  unfold readN
  split
  · exact h
  · split
    · exact fun i => by simp
    · split
      · exact fun i => by simp
      · exact h.drop _
theorem failS_ok (zs : List Int) (e f : Int) (h : zs.length ≤ 3000 ∧ IsBytes zs) : (failS zs e f).length ≤ 3000 ∧ IsBytes (failS zs e f) := by
  unfold failS
  split
  · exact ⟨Nat.zero_le _, fun i => by simp⟩
  · exact h
theorem endS_ok (zs : List Int) (e : Int) (h : zs.length ≤ 3000 ∧ IsBytes zs) : (endS zs e).length ≤ 3000 ∧ IsBytes (endS zs e) := by
  unfold endS
  split
  · exact h
  · exact failS_ok zs e 13 h
theorem readN_ok (zs : List Int) (e most : Int) (h : zs.length ≤ 3000 ∧ IsBytes zs) : (readN zs e most).2.1.length ≤ 3000 ∧ IsBytes (readN zs e most).2.1 :=
  ⟨Nat.le_trans (readN_left zs e most) h.1, readN_bytes zs e most h.2⟩
theorem fixN_ok (zs : List Int) (e n : Int) (h : zs.length ≤ 3000 ∧ IsBytes zs) : (fixN zs e n).2.1.length ≤ 3000 ∧ IsBytes (fixN zs e n).2.1 := by
  unfold fixN
  split
  · exact h
  · split
    · exact ⟨Nat.zero_le _, fun i => by simp⟩
    · split
      · exact ⟨Nat.zero_le _, fun i => by simp⟩
      · refine ⟨?_, h.2.drop _⟩
        show (zs.drop _).length ≤ _
        rw [List.length_drop]
        omega
theorem textN_ok (zs : List Int) (e most : Int) (h : zs.length ≤ 3000 ∧ IsBytes zs) : (textN zs e most).2.1.length ≤ 3000 ∧ IsBytes (textN zs e most).2.1 := by
  unfold textN
  split
  · exact readN_ok zs e _ h
  · split
    · exact ⟨Nat.zero_le _, fun i => by simp⟩
    · exact fixN_ok _ _ _ (readN_ok zs e _ h)

theorem BySl.beside {S : Nat → Prop} {w w' : World} {X : Nat} {v : Value} {zs ys : List Int} {f : Int} (h : BySl S w v zs) (g : RefAt w X ys f) (k : Kp (Jb X) w w') : BySl S w' v zs := by
  obtain ⟨hz, hv⟩ := h
  refine ⟨hz, ?_⟩
  rcases hv with hv | ⟨blk, off, cap, rfl, hc, hm, hcell, hn⟩
  · exact .inl hv
  · by_cases h0 : zs.length = 0
    · obtain rfl := List.eq_nil_of_length_eq_zero h0
      exact .inl ⟨⟨_, _, rfl⟩, rfl⟩
    · have hX : blk ≠ X := by
        intro hX
        subst hX
        have c := hcell 0 (by omega)
        rw [Blk.cell g] at c
        rcases Nat.lt_trichotomy (off + 0) 1 with h | h | h
        · rw [show off + 0 = 0 by omega] at c; simp at c
        · rw [h] at c; simp at c
        · rw [List.getElem?_eq_none (by simp; omega)] at c; cases c
      exact .inr ⟨blk, off, cap, rfl, hc, hm, fun i hi => k.cell (hcell i hi) hX, hn⟩
theorem EyeAt.beside {w w' : World} {E X : Nat} {zs ys : List Int} {e f : Int} (h : EyeAt w E zs e) (g : RefAt w X ys f) (hne : E ≠ X) (k : Kp (Jb X) w w') : EyeAt w' E zs e := by
  obtain ⟨v, hb, hv⟩ := h
  exact ⟨v, hb.kept k hne, hv.beside g k⟩
theorem Kp.twoE {E X : Nat} {a b c : World} (h : Kp (Two E X) a b) (k : Kp (Jb E) b c) : Kp (Two E X) a c := h.trans k (fun _ _ h => .inl h)
theorem Kp.twoX {E X : Nat} {a b c : World} (h : Kp (Two E X) a b) (k : Kp (Jb X) b c) : Kp (Two E X) a c := h.trans k (fun _ _ h => .inr h)

set_option maxRecDepth 100000 in
set_option maxHeartbeats 4000000 in
theorem reads_walk (v0 v1 : Value) (zs : List Int) (os : List (Int × Int × Int)) (w : World) (h0 : BySl Nb w v0 zs) (h1 : InSl w v1 os) (hr : ∀ i : Nat, -9223372036854775808 ≤ (os[i]?.getD (0, 0, 0)).2.1 ∧ (os[i]?.getD (0, 0, 0)).2.1 < 9223372036854775808) :
    Calls Try.prog 8 #[v0, v1] w fun e w' => e = .returned (.bool true) ∧ Kp Nb w w' := by
  obtain ⟨x0, c0, e0⟩ := h0.shape
  obtain ⟨x1, c1, e1⟩ := h1.shape
  have H0 := hid h0
  have H1 := hid h1
  have HR := hid hr
  clear h0 h1 hr
  subst e0 e1
  go_enter Try.func8, Try.ntmps8
  go_wp2_with fail
  refine (first2_any _).mono ?_
  rintro e w1 ⟨rfl, k1⟩
  have K1 := hid k1
  clear k1
  by_cases hb : 3000 < zs.length
  · go_wp2
    go_ret
    exact ⟨rfl, K1.out⟩
  · by_cases ho : 60 < os.length
    · go_wp2
      go_ret
      exact ⟨rfl, K1.out⟩
    · have HB1 := hid (H0.out.kept K1.out (fun _ h => h))
      have HZ : Hid (zs.length ≤ 3000) := by unfold Hid; omega
      have HOL : Hid (os.length ≤ 60) := by unfold Hid; omega
      have CBS : Hid (∀ wx : World, Kp Nb w1 wx → (convert 42 9 (.slice x0 zs.length c0)).run Try.prog wx = .ok (.string (st zs)) wx) := hid (fun wx k => conv_any (HB1.out.kept k (fun _ h => h)))
      obtain ⟨Sz, hSz⟩ : ∃ Sz, Sz = st zs := ⟨_, rfl⟩
      rw [← hSz] at CBS
      have HSZ := hid hSz
      clear hSz
      have kh := hid (Kp.refl Nb w1)
      go_upto_region 5 with fail
      go_cut [5, 6] (OpenR w1 zs)
      case first =>
        go_region_held3 (fun w' => (convert 42 9 (.slice x0 zs.length c0)).run Try.prog w' = .ok (.string Sz) w')
          (exact CBS.out _ (by first | with_reducible exact kh.out | with_reducible exact Kp.drew kh.out | with_reducible exact Kp.alloc kh.out _ | with_reducible exact Kp.alloc (Kp.drew kh.out) _ | with_reducible exact Kp.drew (Kp.alloc kh.out _)))
          (first
            | (go_at_call 40; refine (read_any _ zs _ (BySl.kept (S' := Nb) HB1.out (by first | with_reducible exact Kp.drew kh.out | with_reducible exact Kp.drew (Kp.alloc kh.out _)) (fun _ h => h)) (Nat.le_trans HZ.out (by decide))).mono ?_; rintro e wy ⟨E, hE, rfl, q', k'⟩; have HQ := hid q'; have HE := hid hE; have kr := hid k'; have kh := hid (Kp.trans (S := Nb) (by first | with_reducible exact Kp.drew kh.out | with_reducible exact Kp.drew (Kp.alloc kh.out _)) k' (fun _ _ h => h)); clear q' k' hE))
        · have HX : Hid (RefAt (wy.alloc (.cells #[.string Sz, .int .i64 0] 71)) wy.heap.size zs 0) := by unfold Hid RefAt; rw [← HSZ.out]; exact Blk.new wy _ _
          have HEY := hid (EyeAt.kept HQ.out ((Kp.refl Nb wy).alloc (.cells #[.string Sz, .int .i64 0] 71)) (fun _ _ h => h))
          have HKY := hid (kh.out.alloc (.cells #[.string Sz, .int .i64 0] 71))
          have HNE : Hid (E ≠ wy.heap.size ∧ w1.heap.size ≤ E ∧ w1.heap.size ≤ wy.heap.size) := ⟨by have := HQ.out.lt; omega, HE.out, kh.out.size⟩
          go_wp2_with fail
          go_meet
          exact ⟨E, _, rfl, rfl, HNE, ⟨HZ.out, HB1.out.1, HEY.out, HX.out⟩, HKY⟩
        · have HX : Hid (RefAt wy w1.heap.size zs 0) := by unfold Hid RefAt; rw [← HSZ.out]; exact Blk.kept (Blk.drew (Blk.new w1 71 [.string Sz, .int .i64 0])) kr.out (fun h => h)
          have HNE : Hid (E ≠ w1.heap.size ∧ w1.heap.size ≤ E ∧ w1.heap.size ≤ w1.heap.size) := by
            have h2 := HE.out
            have h3 : (World.drew (World.alloc w1 (.cells #[.string Sz, .int .i64 0] 71))).heap.size = w1.heap.size + 1 := World.size_alloc _ _
            rw [h3] at h2
            exact ⟨by omega, by omega, Nat.le_refl _⟩
          go_wp2_with fail
          go_meet
          exact ⟨E, _, rfl, rfl, HNE, ⟨HZ.out, HB1.out.1, HQ.out, HX.out⟩, kh⟩
      case rest =>
        obtain ⟨E, X, rfl, rfl, HNE, HBO, HK⟩ := hcut
        have HW1 := hid K1.out.size
        have HKW := hid (K1.out.trans HK.out (fun _ _ h => h))
        clear HK CBS HSZ kh HB1 hb ho
        go_wp2_with fail
        go_loopw [30] (ReadR w E X os.length) (fun i _ => os.length - (intOf i).toNat)
        case atStart => exact ⟨0, zs, 0, Nat.zero_le _, rfl, HBO, HKW⟩
        case round =>
          clear HBO HKW
          obtain ⟨j, ys, er, hj, rfl, HBO, HK⟩ := hrel
          by_cases hlt : j < os.length
          · rcases H1.out with ⟨-, hnil⟩ | ⟨blk, off, cap, hv, hcap, hm, hcell⟩
            · subst hnil; simp at hlt
            · obtain ⟨q0, q1, q2⟩ := hcell j hlt
              have hrj := HR.out j
              obtain ⟨rfl, rfl⟩ : x1 = some ⟨blk, off, none⟩ ∧ c1 = cap := by simpa using hv
              have p0 := HK.out.cell q0 (fun h => h)
              have p1 := HK.out.cell q1 (fun h => h)
              have p2 := HK.out.cell q2 (fun h => h)
              obtain ⟨K, hK⟩ : ∃ K, K = (os[j]?.getD (0, 0, 0)).1 := ⟨_, rfl⟩
              obtain ⟨N, hN⟩ : ∃ N, N = (os[j]?.getD (0, 0, 0)).2.1 := ⟨_, rfl⟩
              obtain ⟨U, hU⟩ : ∃ U, U = (os[j]?.getD (0, 0, 0)).2.2 := ⟨_, rfl⟩
              rw [← hK] at p0
              rw [← hN] at p1 hrj
              rw [← hU] at p2
              have HN := hid hrj
              clear hK hN hU q0 q1 q2 hv hcell hrj
              have hj0 : (0 : Int) ≤ (j : Int) := by omega
              have hj1 : (j : Int) < (os.length : Int) := by omega
              have hj2 : (os.length : Int) ≤ 60 := by have := HOL.out; omega
              have HBX := hid (Blk.new wr 73 [.int .i64 K, .int .i64 N, .int .u64 U])
              have HQB := hid (EyeAt.kept HBO.out.2.2.1 ((Kp.refl Nb wr).alloc (.cells #[.int .i64 K, .int .i64 N, .int .u64 U] 73)) (fun _ _ h => h))
              have HXB := hid (RefAt.kept HBO.out.2.2.2 ((Kp.refl Nb wr).alloc (.cells #[.int .i64 K, .int .i64 N, .int .u64 U] 73)) (fun h => h))
              have HOKB := hid (And.intro HBO.out.1 HBO.out.2.1)
              have HKB := hid (HK.out.alloc (.cells #[.int .i64 K, .int .i64 N, .int .u64 U] 73))
              have HBE : Hid (wr.heap.size ≠ E ∧ wr.heap.size ≠ X) := by
                have h1 := HBO.out.2.2.1.lt
                have h2 := Blk.lt HBO.out.2.2.2
                unfold Hid; omega
              obtain ⟨wB, hW⟩ : ∃ wB, wB = wr.alloc (.cells #[.int .i64 K, .int .i64 N, .int .u64 U] 73) := ⟨_, rfl⟩
              obtain ⟨Bx, hBx⟩ : ∃ Bx, Bx = wr.heap.size := ⟨_, rfl⟩
              have HBX : Hid (Blk wB Bx 73 [.int .i64 K, .int .i64 N, .int .u64 U]) := by rw [hW, hBx]; exact HBX
              rw [← hW] at HQB HXB HKB
              rw [← hBx] at HBE
              have HW := hid hW
              have HBXE := hid hBx
              have s0 : wB.cell? ⟨Bx, 0, none⟩ = some (.int .i64 K) := HBX.out.cell 0
              clear hW hBx HBO HK
              obtain ⟨C, hC⟩ : ∃ C, C = IntKind.u64.wrap K % 6 := ⟨_, rfl⟩
              have hc0 : 0 ≤ C ∧ C < 6 := by rw [hC]; omega
              have hkk : (IntKind.u64.wrap K).tmod 6 = C := by rw [hC]; exact Int.tmod_eq_emod_of_nonneg (by rw [IntKind.wrap_u64]; omega)
              clear hC
              have KB0 := hid (Kp.refl (Two E X) wB)
              have HRB : Hid (0 ≤ (readN ys er 18446744073709551615).1 ∧ (readN ys er 18446744073709551615).1 < 18446744073709551616) := readN_range ys er _ HOKB.out.2
              go_upto_block 2 with fail
              rw [← HW.out, ← HBXE.out]
              go_cut [9] (fun s9 wx => s9 = .bool true ∧ ReadC E X wB wx)
              case first =>
                have s1 : wB.cell? ⟨Bx, 1, none⟩ = some (.int .i64 N) := HBX.out.cell 1
                have s2 : wB.cell? ⟨Bx, 2, none⟩ = some (.int .u64 U) := HBX.out.cell 2
                clear p0 p1 p2 HW HBXE
                rcases (show C = 0 ∨ C = 1 ∨ C = 2 ∨ C = 3 ∨ C = 4 ∨ C = 5 by omega) with hc | hc | hc | hc | hc | hc
                · subst hc
                  go_wp2_with fail
                  have KZ := hid (Kp.drew KB0.out)
                  have HQD := hid (EyeAt.kept HQB.out (Kp.drew (Kp.refl Nb wB)) (fun _ _ h => h))
                  have HXD := hid (RefAt.kept HXB.out (Kp.drew (Kp.refl Nb wB)) (fun h => h))
                  have KH : Hid (∀ wx, Kp (Two E X) wB wx → wx.cell? ⟨Bx, 2, none⟩ = some (.int .u64 U)) := fun wx k => k.cell s2 (fun h => by rcases h with h | h; exact HBE.out.1 h; exact HBE.out.2 h)
                  go_region_held3 (fun w' => w'.cell? ⟨Bx, 2, none⟩ = some (.int .u64 U))
                    (exact KH.out _ (by first | with_reducible exact KZ.out | with_reducible exact KD.out | with_reducible exact KC.out))
                    (first
                      | (go_at_call 41; refine (number_any E ys er U _ HQD.out).mono ?_; rintro e wC ⟨rfl, h2, k2⟩; have HQ2 := hid h2; have HX2 := hid (HXD.out.kept k2 (fun h => HNE.out.1 h.symm)); have KC := hid (KZ.out.twoE k2); clear h2 k2)
                      | (go_at_call 42; refine (refi_number X ys er U _ HX2.out HOKB.out.2).mono ?_; rintro e wD ⟨rfl, h3, k3⟩; have HQ3 := hid (HQ2.out.beside HX2.out HNE.out.1 k3); have HX3 := hid h3; have KD := hid (KC.out.twoX k3); clear h3 k3))
                  go_wp2_with fail
                  go_meet
                  exact ⟨rfl, _, _, ⟨(readN_ok ys er _ HOKB.out).1, (readN_ok ys er _ HOKB.out).2, HQ3.out, HX3.out⟩, KD⟩
                · subst hc
                  go_wp2_with fail
                  refine (signed_any E ys er _ HQB.out).mono ?_
                  rintro e wC ⟨rfl, h2, k2⟩
                  have HQ2 := hid h2
                  have HX2 := hid (HXB.out.kept k2 (fun h => HNE.out.1 h.symm))
                  have KC := hid (KB0.out.twoE k2)
                  clear h2 k2
                  go_wp2_with fail
                  refine (refi_number X ys er 18446744073709551615 _ HX2.out HOKB.out.2).mono ?_
                  rintro e wD ⟨rfl, h3, k3⟩
                  have HQ3 := hid (HQ2.out.beside HX2.out HNE.out.1 k3)
                  have HX3 := hid h3
                  have KD := hid (KC.out.twoX k3)
                  clear h3 k3
                  go_wp2_with fail
                  refine (refn_zag _ _ HRB.out.1 HRB.out.2).mono ?_
                  rintro e wE ⟨rfl, rfl⟩
                  go_wp2_with fail
                  go_meet
                  exact ⟨rfl, _, _, ⟨(readN_ok ys er _ HOKB.out).1, (readN_ok ys er _ HOKB.out).2, HQ3.out, HX3.out⟩, KD⟩
                · subst hc
                  go_wp2_with fail
                  have KZ := hid (Kp.drew KB0.out)
                  have HQD := hid (EyeAt.kept HQB.out (Kp.drew (Kp.refl Nb wB)) (fun _ _ h => h))
                  have HXD := hid (RefAt.kept HXB.out (Kp.drew (Kp.refl Nb wB)) (fun h => h))
                  have KH : Hid (∀ wx, Kp (Two E X) wB wx → wx.cell? ⟨Bx, 1, none⟩ = some (.int .i64 N)) := fun wx k => k.cell s1 (fun h => by rcases h with h | h; exact HBE.out.1 h; exact HBE.out.2 h)
                  refine wp_region_noPanic ?_
                  refine wp_region_held_drew (S := (fun w' => w'.cell? ⟨Bx, 1, none⟩ = some (.int .i64 N))) (by kernel_rfl) ?_ (fun hHeld => ?_)
                  · exact KH.out _ KZ.out
                  refine wpAnyH_take (i := 0) (v := ?_) rfl (by kernel_rfl) (by kernel_rfl) (by kernel_rfl) (fun _ _ _ h => h) (Or.inl ⟨by rfl, ?_⟩) (by assumption) ?_
                  rotate_left
                  · (intro w hSw; (try dsimp only at hSw); go_simp; try (with_reducible rfl))
                  (try simp only [Act.put, List.getElem_toArray, List.getElem_cons_zero, List.setIfInBounds_toArray, List.set_cons_zero, List.set_cons_succ])
                  refine wpAnyH_take (i := 1) (v := ?_) rfl (by kernel_rfl) (by kernel_rfl) (by kernel_rfl) (fun _ _ _ h => h) (Or.inl ⟨by rfl, ?_⟩) (by assumption) ?_
                  rotate_left
                  · (intro w hSw; (try dsimp only at hSw); go_simp; try (with_reducible rfl))
                  (try simp only [Act.put, List.getElem_toArray, List.getElem_cons_zero, List.getElem_cons_succ, List.setIfInBounds_toArray, List.set_cons_zero, List.set_cons_succ])
                  refine wpAnyH_take (i := 2) (v := ?_) rfl (by kernel_rfl) (by kernel_rfl) (by kernel_rfl) (fun _ _ _ h => h) (Or.inl ⟨by rfl, ?_⟩) (by assumption) ?_
                  rotate_left
                  · (intro w hSw; (try dsimp only at hSw); go_simp; try (with_reducible rfl))
                  (try simp only [Act.put, List.getElem_toArray, List.getElem_cons_zero, List.getElem_cons_succ, List.setIfInBounds_toArray, List.set_cons_zero, List.set_cons_succ])
                  refine wpAnyH_take (i := 5) (v := ?_) rfl (by kernel_rfl) (by kernel_rfl) (by kernel_rfl) (fun _ _ _ h => h) (Or.inl ⟨by rfl, ?_⟩) (by assumption) ?_
                  rotate_left
                  · (intro w hSw; (try dsimp only at hSw); go_simp; try (with_reducible rfl))
                  (try simp only [Act.put, List.getElem_toArray, List.getElem_cons_zero, List.getElem_cons_succ, List.setIfInBounds_toArray, List.set_cons_zero, List.set_cons_succ])
                  refine wpAnyH_take (i := 6) (v := ?_) rfl (by kernel_rfl) (by kernel_rfl) (by kernel_rfl) (fun _ _ _ h => h) (Or.inl ⟨by rfl, ?_⟩) (by assumption) ?_
                  rotate_left
                  · (intro w hSw; (try dsimp only at hSw); go_simp; try (with_reducible rfl))
                  (try simp only [Act.put, List.getElem_toArray, List.getElem_cons_zero, List.getElem_cons_succ, List.setIfInBounds_toArray, List.set_cons_zero, List.set_cons_succ])
                  refine wpAnyH_take (i := 7) (v := ?_) rfl (by kernel_rfl) (by kernel_rfl) (by kernel_rfl) (fun _ _ _ h => h) (Or.inl ⟨by rfl, ?_⟩) (by assumption) ?_
                  rotate_left
                  · (intro w hSw; (try dsimp only at hSw); go_simp; try (with_reducible rfl))
                  (try simp only [Act.put, List.getElem_toArray, List.getElem_cons_zero, List.getElem_cons_succ, List.setIfInBounds_toArray, List.set_cons_zero, List.set_cons_succ])
                  refine wpAnyH_ready (rs := [3]) (by kernel_rfl) (by simp) ?_
                  refine AllReadyH.cons rfl (fun K hK => ?_) AllReadyH.nil
                  go_simp
                  refine (text_any E ys er N _ HQD.out (Nat.le_trans HOKB.out.1 (by decide)) HN.out.1 HN.out.2).mono ?_
                  rintro e wC ⟨⟨vt, rfl, bt⟩, h2, k2⟩
                  have HQ2 := hid h2
                  have HX2 := hid (HXD.out.kept k2 (fun h => HNE.out.1 h.symm))
                  have KC := hid (KZ.out.twoE k2)
                  have HBT := hid bt
                  have hcv := conv_any bt
                  obtain ⟨St, hSt⟩ : ∃ St, St = st (textN ys er N).1 := ⟨_, rfl⟩
                  rw [← hSt] at hcv
                  have HST := hid hSt
                  clear h2 k2 bt hSt
                  go_wp2_with fail
                  refine hK.out _ _ ?_ (fun hHeld => ?_)
                  · exact KH.out _ KC.out
                  clear hK K
                  (try simp only [Act.put, List.getElem_toArray, List.getElem_cons_zero, List.getElem_cons_succ, List.setIfInBounds_toArray, List.set_cons_zero, List.set_cons_succ])
                  have hS2 : wC.cell? ⟨Bx, 1, none⟩ = some (.int .i64 N) ∧ (convert 42 9 vt).run Try.prog wC = .ok (.string St) wC := ⟨KH.out _ KC.out, hcv⟩
                  refine held_mono (S' := fun w' => w'.cell? ⟨Bx, 1, none⟩ = some (.int .i64 N) ∧ (convert 42 9 vt).run Try.prog w' = .ok (.string St) w') (fun _ h => h.1) _ _ _ _ ?_
                  clear hcv
                  refine wpAnyH_take (i := 4) (v := ?_) rfl (by kernel_rfl) (by kernel_rfl) (by kernel_rfl) (fun _ _ _ h => h) (Or.inl ⟨by rfl, ?_⟩) (by assumption) ?_
                  rotate_left
                  · (intro w hSw; obtain ⟨hSa, hSb⟩ := hSw; go_simp; try (with_reducible rfl))
                  (try simp only [Act.put, List.getElem_toArray, List.getElem_cons_zero, List.getElem_cons_succ, List.setIfInBounds_toArray, List.set_cons_zero, List.set_cons_succ])
                  refine wpAnyH_ready (rs := [8]) (by kernel_rfl) (by simp) ?_
                  refine AllReadyH.cons rfl (fun K hK => ?_) AllReadyH.nil
                  go_simp
                  refine (refi_text X ys er N _ HX2.out HOKB.out.2 HN.out.1 HN.out.2).mono ?_
                  rintro e wD ⟨rfl, h3, k3⟩
                  have HQ3 := hid (HQ2.out.beside HX2.out HNE.out.1 k3)
                  have HX3 := hid h3
                  have KD := hid (KC.out.twoX k3)
                  have hcv2 := conv_any (HBT.out.beside HX2.out k3)
                  rw [← HST.out] at hcv2 ⊢
                  clear h3 k3
                  go_wp2_with fail
                  refine hK.out _ _ ?_ (fun hHeld => ?_)
                  · exact ⟨KH.out _ KD.out, hcv2⟩
                  clear hK K
                  (try simp only [Act.put, List.getElem_toArray, List.getElem_cons_zero, List.getElem_cons_succ, List.setIfInBounds_toArray, List.set_cons_zero, List.set_cons_succ])
                  have hS3 : wD.cell? ⟨Bx, 1, none⟩ = some (.int .i64 N) ∧ (convert 42 9 vt).run Try.prog wD = .ok (.string St) wD := ⟨KH.out _ KD.out, hcv2⟩
                  clear hcv2
                  refine wpAnyH_take (i := 9) (v := ?_) rfl (by kernel_rfl) (by kernel_rfl) (by kernel_rfl) (fun _ _ _ h => h) (Or.inl ⟨by rfl, ?_⟩) (by assumption) ?_
                  rotate_left
                  · (intro w hSw; (try dsimp only at hSw); go_simp; try (with_reducible rfl))
                  (try simp only [Act.put, List.getElem_toArray, List.getElem_cons_zero, List.getElem_cons_succ, List.setIfInBounds_toArray, List.set_cons_zero, List.set_cons_succ])
                  refine wpAnyH_take (i := 10) (v := ?_) rfl (by kernel_rfl) (by kernel_rfl) (by kernel_rfl) (fun _ _ _ h => h) (Or.inl ⟨by rfl, ?_⟩) (by assumption) ?_
                  rotate_left
                  · (intro w hSw; (try dsimp only at hSw); go_simp; try (with_reducible rfl))
                  (try simp only [Act.put, List.getElem_toArray, List.getElem_cons_zero, List.getElem_cons_succ, List.setIfInBounds_toArray, List.set_cons_zero, List.set_cons_succ])
                  refine wpAnyH_done (by kernel_rfl) ?_ _
                  refine NoPanic.normal ?_
                  go_wp2_with fail
                  go_meet
                  exact ⟨rfl, _, _, ⟨(textN_ok ys er _ HOKB.out).1, (textN_ok ys er _ HOKB.out).2, HQ3.out, HX3.out⟩, KD⟩
                · subst hc
                  go_wp2_with fail
                  have KZ := hid (Kp.drew KB0.out)
                  have HQD := hid (EyeAt.kept HQB.out (Kp.drew (Kp.refl Nb wB)) (fun _ _ h => h))
                  have HXD := hid (RefAt.kept HXB.out (Kp.drew (Kp.refl Nb wB)) (fun h => h))
                  have KH : Hid (∀ wx, Kp (Two E X) wB wx → wx.cell? ⟨Bx, 1, none⟩ = some (.int .i64 N)) := fun wx k => k.cell s1 (fun h => by rcases h with h | h; exact HBE.out.1 h; exact HBE.out.2 h)
                  refine wp_region_noPanic ?_
                  refine wp_region_held_drew (S := (fun w' => w'.cell? ⟨Bx, 1, none⟩ = some (.int .i64 N))) (by kernel_rfl) ?_ (fun hHeld => ?_)
                  · exact KH.out _ KZ.out
                  refine wpAnyH_take (i := 0) (v := ?_) rfl (by kernel_rfl) (by kernel_rfl) (by kernel_rfl) (fun _ _ _ h => h) (Or.inl ⟨by rfl, ?_⟩) (by assumption) ?_
                  rotate_left
                  · (intro w hSw; (try dsimp only at hSw); go_simp; try (with_reducible rfl))
                  (try simp only [Act.put, List.getElem_toArray, List.getElem_cons_zero, List.setIfInBounds_toArray, List.set_cons_zero, List.set_cons_succ])
                  refine wpAnyH_take (i := 1) (v := ?_) rfl (by kernel_rfl) (by kernel_rfl) (by kernel_rfl) (fun _ _ _ h => h) (Or.inl ⟨by rfl, ?_⟩) (by assumption) ?_
                  rotate_left
                  · (intro w hSw; (try dsimp only at hSw); go_simp; try (with_reducible rfl))
                  (try simp only [Act.put, List.getElem_toArray, List.getElem_cons_zero, List.getElem_cons_succ, List.setIfInBounds_toArray, List.set_cons_zero, List.set_cons_succ])
                  refine wpAnyH_take (i := 2) (v := ?_) rfl (by kernel_rfl) (by kernel_rfl) (by kernel_rfl) (fun _ _ _ h => h) (Or.inl ⟨by rfl, ?_⟩) (by assumption) ?_
                  rotate_left
                  · (intro w hSw; (try dsimp only at hSw); go_simp; try (with_reducible rfl))
                  (try simp only [Act.put, List.getElem_toArray, List.getElem_cons_zero, List.getElem_cons_succ, List.setIfInBounds_toArray, List.set_cons_zero, List.set_cons_succ])
                  refine wpAnyH_take (i := 5) (v := ?_) rfl (by kernel_rfl) (by kernel_rfl) (by kernel_rfl) (fun _ _ _ h => h) (Or.inl ⟨by rfl, ?_⟩) (by assumption) ?_
                  rotate_left
                  · (intro w hSw; (try dsimp only at hSw); go_simp; try (with_reducible rfl))
                  (try simp only [Act.put, List.getElem_toArray, List.getElem_cons_zero, List.getElem_cons_succ, List.setIfInBounds_toArray, List.set_cons_zero, List.set_cons_succ])
                  refine wpAnyH_take (i := 6) (v := ?_) rfl (by kernel_rfl) (by kernel_rfl) (by kernel_rfl) (fun _ _ _ h => h) (Or.inl ⟨by rfl, ?_⟩) (by assumption) ?_
                  rotate_left
                  · (intro w hSw; (try dsimp only at hSw); go_simp; try (with_reducible rfl))
                  (try simp only [Act.put, List.getElem_toArray, List.getElem_cons_zero, List.getElem_cons_succ, List.setIfInBounds_toArray, List.set_cons_zero, List.set_cons_succ])
                  refine wpAnyH_take (i := 7) (v := ?_) rfl (by kernel_rfl) (by kernel_rfl) (by kernel_rfl) (fun _ _ _ h => h) (Or.inl ⟨by rfl, ?_⟩) (by assumption) ?_
                  rotate_left
                  · (intro w hSw; (try dsimp only at hSw); go_simp; try (with_reducible rfl))
                  (try simp only [Act.put, List.getElem_toArray, List.getElem_cons_zero, List.getElem_cons_succ, List.setIfInBounds_toArray, List.set_cons_zero, List.set_cons_succ])
                  refine wpAnyH_ready (rs := [3]) (by kernel_rfl) (by simp) ?_
                  refine AllReadyH.cons rfl (fun K hK => ?_) AllReadyH.nil
                  go_simp
                  refine (fixed_any E ys er N _ HQD.out (Nat.le_trans HOKB.out.1 (by decide))).mono ?_
                  rintro e wC ⟨⟨vt, rfl, bt⟩, h2, k2⟩
                  have HQ2 := hid h2
                  have HX2 := hid (HXD.out.kept k2 (fun h => HNE.out.1 h.symm))
                  have KC := hid (KZ.out.twoE k2)
                  have HBT := hid bt
                  have hcv := conv_any bt
                  obtain ⟨St, hSt⟩ : ∃ St, St = st (fixN ys er N).1 := ⟨_, rfl⟩
                  rw [← hSt] at hcv
                  have HST := hid hSt
                  clear h2 k2 bt hSt
                  go_wp2_with fail
                  refine hK.out _ _ ?_ (fun hHeld => ?_)
                  · exact KH.out _ KC.out
                  clear hK K
                  (try simp only [Act.put, List.getElem_toArray, List.getElem_cons_zero, List.getElem_cons_succ, List.setIfInBounds_toArray, List.set_cons_zero, List.set_cons_succ])
                  have hS2 : wC.cell? ⟨Bx, 1, none⟩ = some (.int .i64 N) ∧ (convert 42 9 vt).run Try.prog wC = .ok (.string St) wC := ⟨KH.out _ KC.out, hcv⟩
                  refine held_mono (S' := fun w' => w'.cell? ⟨Bx, 1, none⟩ = some (.int .i64 N) ∧ (convert 42 9 vt).run Try.prog w' = .ok (.string St) w') (fun _ h => h.1) _ _ _ _ ?_
                  clear hcv
                  refine wpAnyH_take (i := 4) (v := ?_) rfl (by kernel_rfl) (by kernel_rfl) (by kernel_rfl) (fun _ _ _ h => h) (Or.inl ⟨by rfl, ?_⟩) (by assumption) ?_
                  rotate_left
                  · (intro w hSw; obtain ⟨hSa, hSb⟩ := hSw; go_simp; try (with_reducible rfl))
                  (try simp only [Act.put, List.getElem_toArray, List.getElem_cons_zero, List.getElem_cons_succ, List.setIfInBounds_toArray, List.set_cons_zero, List.set_cons_succ])
                  refine wpAnyH_ready (rs := [8]) (by kernel_rfl) (by simp) ?_
                  refine AllReadyH.cons rfl (fun K hK => ?_) AllReadyH.nil
                  go_simp
                  refine (refi_fixed X ys er N _ HX2.out ).mono ?_
                  rintro e wD ⟨rfl, h3, k3⟩
                  have HQ3 := hid (HQ2.out.beside HX2.out HNE.out.1 k3)
                  have HX3 := hid h3
                  have KD := hid (KC.out.twoX k3)
                  have hcv2 := conv_any (HBT.out.beside HX2.out k3)
                  rw [← HST.out] at hcv2 ⊢
                  clear h3 k3
                  go_wp2_with fail
                  refine hK.out _ _ ?_ (fun hHeld => ?_)
                  · exact ⟨KH.out _ KD.out, hcv2⟩
                  clear hK K
                  (try simp only [Act.put, List.getElem_toArray, List.getElem_cons_zero, List.getElem_cons_succ, List.setIfInBounds_toArray, List.set_cons_zero, List.set_cons_succ])
                  have hS3 : wD.cell? ⟨Bx, 1, none⟩ = some (.int .i64 N) ∧ (convert 42 9 vt).run Try.prog wD = .ok (.string St) wD := ⟨KH.out _ KD.out, hcv2⟩
                  clear hcv2
                  refine wpAnyH_take (i := 9) (v := ?_) rfl (by kernel_rfl) (by kernel_rfl) (by kernel_rfl) (fun _ _ _ h => h) (Or.inl ⟨by rfl, ?_⟩) (by assumption) ?_
                  rotate_left
                  · (intro w hSw; (try dsimp only at hSw); go_simp; try (with_reducible rfl))
                  (try simp only [Act.put, List.getElem_toArray, List.getElem_cons_zero, List.getElem_cons_succ, List.setIfInBounds_toArray, List.set_cons_zero, List.set_cons_succ])
                  refine wpAnyH_take (i := 10) (v := ?_) rfl (by kernel_rfl) (by kernel_rfl) (by kernel_rfl) (fun _ _ _ h => h) (Or.inl ⟨by rfl, ?_⟩) (by assumption) ?_
                  rotate_left
                  · (intro w hSw; (try dsimp only at hSw); go_simp; try (with_reducible rfl))
                  (try simp only [Act.put, List.getElem_toArray, List.getElem_cons_zero, List.getElem_cons_succ, List.setIfInBounds_toArray, List.set_cons_zero, List.set_cons_succ])
                  refine wpAnyH_done (by kernel_rfl) ?_ _
                  refine NoPanic.normal ?_
                  go_wp2_with fail
                  go_meet
                  exact ⟨rfl, _, _, ⟨(fixN_ok ys er _ HOKB.out).1, (fixN_ok ys er _ HOKB.out).2, HQ3.out, HX3.out⟩, KD⟩
                · subst hc
                  go_wp2_with fail
                  refine (fail_any E ys er (N.tmod 100) _ HQB.out).mono ?_
                  rintro e wC ⟨rfl, h2, k2⟩
                  have HQ2 := hid h2
                  have HX2 := hid (HXB.out.kept k2 (fun h => HNE.out.1 h.symm))
                  have KC := hid (KB0.out.twoE k2)
                  clear h2 k2
                  go_wp2_with fail
                  refine (refi_fail X ys er (N.tmod 100) _ HX2.out).mono ?_
                  rintro e wD ⟨rfl, h3, k3⟩
                  have HQ3 := hid (HQ2.out.beside HX2.out HNE.out.1 k3)
                  have HX3 := hid h3
                  have KD := hid (KC.out.twoX k3)
                  clear h3 k3
                  go_wp2_with fail
                  go_meet
                  exact ⟨rfl, _, _, ⟨(failS_ok ys er _ HOKB.out).1, (failS_ok ys er _ HOKB.out).2, HQ3.out, HX3.out⟩, KD⟩
                · subst hc
                  go_wp2_with fail
                  refine (end_any E ys er _ HQB.out).mono ?_
                  rintro e wC ⟨rfl, h2, k2⟩
                  have HQ2 := hid h2
                  have HX2 := hid (HXB.out.kept k2 (fun h => HNE.out.1 h.symm))
                  have KC := hid (KB0.out.twoE k2)
                  clear h2 k2
                  go_wp2_with fail
                  refine (refi_end X ys er _ HX2.out).mono ?_
                  rintro e wD ⟨rfl, h3, k3⟩
                  have HQ3 := hid (HQ2.out.beside HX2.out HNE.out.1 k3)
                  have HX3 := hid h3
                  have KD := hid (KC.out.twoX k3)
                  clear h3 k3
                  go_wp2_with fail
                  go_meet
                  exact ⟨rfl, _, _, ⟨(endS_ok ys er HOKB.out).1, (endS_ok ys er HOKB.out).2, HQ3.out, HX3.out⟩, KD⟩
              case rest =>
                obtain ⟨rfl, zs2, er2, HBO2, HKC⟩ := hcut
                have HRel := hid (show ReadR w E X os.length (.int .i64 ((j : Int) + 1)) wc.drew from ⟨j + 1, zs2, er2, by omega, by go_num, ⟨HBO2.out.1, HBO2.out.2.1, EyeAt.kept HBO2.out.2.2.1 (Kp.drew (Kp.refl Nb wc)) (fun _ _ h => h), RefAt.kept HBO2.out.2.2.2 (Kp.drew (Kp.refl Nb wc)) (fun h => h)⟩, HKB.out.trans (Kp.drew HKC.out) (fun i hi h => by
                  have h1 := HNE.out
                  have h2 := HW1.out
                  rcases h with h | h <;> omega)⟩)
                have HM := hid (show os.length - (intOf (.int .i64 ((j : Int) + 1))).toNat < os.length - (intOf (.int .i64 (j : Int))).toNat by simp only [intOf]; omega)
                have t0 : wc.cell? ⟨X, 0, none⟩ = some (.string (st zs2)) := Blk.cell HBO2.out.2.2.2 0
                have t1 : wc.cell? ⟨X, 1, none⟩ = some (.int .i64 er2) := Blk.cell HBO2.out.2.2.2 1
                have hst := st_size zs2
                obtain ⟨Sx, hSx⟩ : ∃ Sx, Sx = st zs2 := ⟨_, rfl⟩
                rw [← hSx] at t0 hst
                have HQD := hid (EyeAt.kept HBO2.out.2.2.1 (Kp.drew (Kp.refl Nb wc)) (fun _ _ h => h))
                clear hSx p0 p1 p2 s0 HQB HXB HKB HKC HOKB HRB KB0 HBX
                go_wp2_with fail
                go_region_held3 (fun w' => w'.cell? ⟨X, 0, none⟩ = some (.string Sx) ∧ w'.cell? ⟨X, 1, none⟩ = some (.int .i64 er2))
                  (exact ⟨t0, t1⟩)
                  (first
                    | (go_at_call 52; refine (err_any E zs2 er2 _ HQD.out).mono ?_; rintro e wy ⟨rfl, rfl⟩)
                    | (go_at_call 53; refine (left_any E zs2 er2 _ HQD.out).mono ?_; rintro e wy ⟨rfl, rfl⟩))
                go_wp2
                first
                  | exact ⟨HRel.out, HM.out⟩
                  | (go_roundw
                     case rel => (repeat apply Exists.intro); exact HRel.out
                     case measure => exact HM.out)
                  | (refine ⟨?_, ?measure⟩
                     iterate 100 (first | apply Exists.intro | skip)
                     refine ⟨?rel, rfl⟩
                     case rel => exact HRel.out
                     case measure => exact HM.out)
          · obtain rfl : j = os.length := by omega
            go_wp2_with fail
            refine (neye_fail 2 _).mono ?_
            rintro e wa ⟨rfl, rfl⟩
            go_wp2_with fail
            refine (neye_number 9 _).mono ?_
            rintro e wa ⟨rfl, rfl⟩
            go_wp2_with fail
            refine (neye_signed _).mono ?_
            rintro e wa ⟨rfl, rfl⟩
            go_wp2_with fail
            refine (neye_text 9 _).mono ?_
            rintro e wa ⟨rfl, rfl⟩
            go_wp2_with fail
            refine (neye_fixed 9 _).mono ?_
            rintro e wa ⟨rfl, rfl⟩
            go_wp2_with fail
            refine (neye_left _).mono ?_
            rintro e wa ⟨rfl, rfl⟩
            go_wp2_with fail
            refine (neye_err _).mono ?_
            rintro e wa ⟨rfl, rfl⟩
            go_wp2_with fail
            refine (neye_end _).mono ?_
            rintro e wa ⟨rfl, rfl⟩
            go_wp2
            go_ret
            exact ⟨rfl, HK.out⟩

end Go.Proofs.Ytfbpaakgifnmaaa
