/-
  The statement of layer 2 on errors: behind an error nothing is read, and the error stays. The walk. Conditions: what an int is.
-/
import Derived.Test.YtfbpaakgifnmaaaPenF
namespace Go.Proofs.Ytfbpaakgifnmaaa
open Go.RowKit

/-- A list of three numbers each as a value. -/
def InSl (w : World) (v : Value) (os : List (Int × Int × Int)) : Prop :=
  ((∃ a cap, v = .slice a 0 cap) ∧ os = []) ∨ ∃ blk off cap, v = .slice (some ⟨blk, off, none⟩) os.length cap ∧ os.length ≤ cap ∧ cap ≤ maxLen ∧
    ∀ i, i < os.length → w.cell? ⟨blk, off + i * 3, none⟩ = some (.int .i64 (os[i]?.getD (0, 0, 0)).1) ∧ w.cell? ⟨blk, off + i * 3 + 1, none⟩ = some (.int .i64 (os[i]?.getD (0, 0, 0)).2.1) ∧ w.cell? ⟨blk, off + i * 3 + 2, none⟩ = some (.int .u64 (os[i]?.getD (0, 0, 0)).2.2)
theorem InSl.shape {w : World} {v : Value} {os : List (Int × Int × Int)} (h : InSl w v os) : ∃ y d, v = .slice y os.length d := by
  rcases h with ⟨⟨a, c, rfl⟩, rfl⟩ | ⟨blk, off, cap, rfl, _⟩
  · exact ⟨a, c, rfl⟩
  · exact ⟨_, _, rfl⟩
theorem BySl.shape {S : Nat → Prop} {w : World} {v : Value} {zs : List Int} (h : BySl S w v zs) : ∃ y d, v = .slice y zs.length d := by
  rcases h.2 with ⟨⟨a, c, rfl⟩, rfl⟩ | ⟨blk, off, cap, rfl, _⟩
  · exact ⟨a, c, rfl⟩
  · exact ⟨_, _, rfl⟩

def StopR (w : World) (E : Nat) (f : Int) (n : Nat) (i : Value) (wr : World) : Prop := ∃ j : Nat, j ≤ n ∧ i = .int .i64 j ∧ Hid (EyeAt wr E [] f) ∧ Hid (Kp Nb w wr)

theorem stop_read (f most : Int) (hf : f ≠ 0) : readN [] f most = (0, [], f) := by unfold readN; rw [if_pos hf]
theorem stop_text (f most : Int) (hf : f ≠ 0) : textN [] f most = ([], [], f) := by unfold textN; rw [stop_read f _ hf]; exact if_pos hf
theorem stop_fixed (f n : Int) (hf : f ≠ 0) : fixN [] f n = ([], [], f) := by unfold fixN; rw [if_pos hf]
theorem none_shape {S : Nat → Prop} {w : World} {v : Value} (h : BySl S w v []) : ∃ x c, v = .slice x 0 c := h.shape

theorem stop_held {wB wx : World} {Bx E : Nat} {t : TypeId} {K N U : Value} (h : Blk wB Bx t [K, N, U]) (k : Kp (Jb E) wB wx) (hne : Bx ≠ E) : wx.cell? ⟨Bx, 1, none⟩ = some N ∧ wx.cell? ⟨Bx, 2, none⟩ = some U :=
  ⟨(h.kept k hne).cell 1, (h.kept k hne).cell 2⟩

set_option maxRecDepth 100000 in
set_option maxHeartbeats 2000000 in
theorem stops_walk (v0 v2 : Value) (zs : List Int) (f : Int) (os : List (Int × Int × Int)) (w : World) (h0 : BySl Nb w v0 zs) (h2 : InSl w v2 os) (hr : ∀ i : Nat, -9223372036854775808 ≤ (os[i]?.getD (0, 0, 0)).2.1 ∧ (os[i]?.getD (0, 0, 0)).2.1 < 9223372036854775808) :
    Calls Try.prog 11 #[v0, .int .i64 f, v2] w fun e w' => e = .returned (.bool true) ∧ Kp Nb w w' := by
  obtain ⟨x0, c0, e0⟩ := h0.shape
  obtain ⟨x2, c2, e2⟩ := h2.shape
  have H0 := hid h0
  have H2 := hid h2
  have HR := hid hr
  clear h0 h2 hr
  subst e0 e2
  go_enter Try.func11, Try.ntmps11
  go_wp2_with fail
  refine (first2_any _).mono ?_
  rintro e w1 ⟨rfl, k1⟩
  have K1 := hid k1
  clear k1
  by_cases hb : 3000 < zs.length
  · go_wp2
    go_ret
    exact ⟨rfl, K1.out⟩
  · by_cases ho : 60 < os.length
    · go_wp2
      go_ret
      exact ⟨rfl, K1.out⟩
    · have HB1 := hid (H0.out.kept K1.out (fun _ h => h))
      have HZ : Hid (zs.length ≤ 140737488355328) := by unfold Hid; omega
      go_wp2_with fail
      refine (read_any _ zs _ HB1.out HZ.out).mono ?_
      rintro e w2 ⟨E, hE, rfl, h2, k2⟩
      have HE : Hid (w.heap.size ≤ E) := hid (Nat.le_trans K1.out.size hE)
      have HQ2 := hid h2
      have K2 := hid (K1.out.trans k2 (fun _ _ h => h))
      clear hE h2 k2 HB1 K1
      go_wp2_with fail
      refine (fail_any E zs 0 f _ HQ2.out).mono ?_
      rintro e w3 ⟨rfl, h3, k3⟩
      have K3 := hid (K2.out.trans k3 (fun i hi h => by have := HE.out; unfold Jb at h; omega))
      by_cases hf : f = 0
      · subst hf
        have HQ3 := hid (show EyeAt w3 E zs 0 from h3)
        clear h3 k3 HQ2 K2
        go_wp2_with fail
        refine (left_any E zs 0 _ HQ3.out).mono ?_
        rintro e w4 ⟨rfl, rfl⟩
        go_wp2_with fail
        refine (err_any E zs 0 _ HQ3.out).mono ?_
        rintro e w4 ⟨rfl, rfl⟩
        go_wp2
        go_ret
        exact ⟨rfl, K3.out⟩
      · have h3' : EyeAt w3 E [] f := by
          have e1 : failS zs 0 f = [] := by unfold failS; rw [if_pos ⟨rfl, hf⟩]
          have e2 : failE 0 f = f := by unfold failE; rw [if_pos ⟨rfl, hf⟩]
          rw [e1, e2] at h3
          exact h3
        have HQ3 := hid h3'
        have g1 : (f == 0) = false := by rw [beq_eq_false_iff_ne]; exact hf
        have HF := hid hf
        clear h3 h3' k3 HQ2 K2 hb
        go_wp2
        go_loopw [39] (StopR w E f os.length) (fun i _ => os.length - (intOf i).toNat)
        case atStart => exact ⟨0, Nat.zero_le _, rfl, HQ3, K3⟩
        case round =>
          clear HQ3 K3
          obtain ⟨j, hj, rfl, HQ, HK⟩ := hrel
          by_cases hlt : j < os.length
          · rcases H2.out with ⟨-, hnil⟩ | ⟨blk, off, cap, hv, hcap, hm, hcell⟩
            · subst hnil; simp at hlt
            · obtain ⟨q0, q1, q2⟩ := hcell j hlt
              have hrj := HR.out j
              obtain ⟨rfl, rfl⟩ : x2 = some ⟨blk, off, none⟩ ∧ c2 = cap := by simpa using hv
              have p0 := HK.out.cell q0 (fun h => h)
              have p1 := HK.out.cell q1 (fun h => h)
              have p2 := HK.out.cell q2 (fun h => h)
              obtain ⟨K, hK⟩ : ∃ K, K = (os[j]?.getD (0, 0, 0)).1 := ⟨_, rfl⟩
              obtain ⟨N, hN⟩ : ∃ N, N = (os[j]?.getD (0, 0, 0)).2.1 := ⟨_, rfl⟩
              obtain ⟨U, hU⟩ : ∃ U, U = (os[j]?.getD (0, 0, 0)).2.2 := ⟨_, rfl⟩
              rw [← hK] at p0
              rw [← hN] at p1 hrj
              rw [← hU] at p2
              have HN := hid hrj
              clear hK hN hU q0 q1 q2 hv hcell hrj
              have hj0 : (0 : Int) ≤ (j : Int) := by omega
              have hj1 : (j : Int) < (os.length : Int) := by omega
              go_wp2_with fail
              have HBX := hid (Blk.new wr 73 [.int .i64 K, .int .i64 N, .int .u64 U])
              have HQB := hid (EyeAt.kept HQ.out ((Kp.refl Nb wr).alloc (.cells #[.int .i64 K, .int .i64 N, .int .u64 U] 73)) (fun _ _ h => h))
              have HKB := hid (HK.out.alloc (.cells #[.int .i64 K, .int .i64 N, .int .u64 U] 73))
              have HNE : Hid (wr.heap.size ≠ E) := by have := HQ.out.lt; unfold Hid; omega
              obtain ⟨wB, hW⟩ : ∃ wB, wB = wr.alloc (.cells #[.int .i64 K, .int .i64 N, .int .u64 U] 73) := ⟨_, rfl⟩
              obtain ⟨Bx, hBx⟩ : ∃ Bx, Bx = wr.heap.size := ⟨_, rfl⟩
              have HBX : Hid (Blk wB Bx 73 [.int .i64 K, .int .i64 N, .int .u64 U]) := by rw [hW, hBx]; exact HBX
              rw [← hW] at HQB HKB ⊢
              rw [← hBx] at HNE ⊢
              clear hW hBx HQ HK p0 p1 p2
              have s1 : wB.cell? ⟨Bx, 1, none⟩ = some (.int .i64 N) := HBX.out.cell 1
              have s2 : wB.cell? ⟨Bx, 2, none⟩ = some (.int .u64 U) := HBX.out.cell 2
              have kh := hid (Kp.refl (Jb E) wB)
              have CN : Hid (∀ wx : World, EyeAt wx E [] f → Calls Try.prog 41 #[.pointer (some ⟨E, 0, none⟩), .int .u64 U] wx fun r w' => r = .returned (.int .u64 0) ∧ EyeAt w' E [] f ∧ Kp (Jb E) wx w') := hid (fun wx h => by have := number_any E [] f U wx h; rw [stop_read f U HF.out] at this; exact this)
              have CS : Hid (∀ wx : World, EyeAt wx E [] f → Calls Try.prog 43 #[.pointer (some ⟨E, 0, none⟩)] wx fun r w' => r = .returned (.int .i64 0) ∧ EyeAt w' E [] f ∧ Kp (Jb E) wx w') := hid (fun wx h => by have := signed_any E [] f wx h; rw [stop_read f _ HF.out] at this; exact this)
              have CT : Hid (∀ wx : World, EyeAt wx E [] f → Calls Try.prog 44 #[.pointer (some ⟨E, 0, none⟩), .int .i64 N] wx fun r w' => (∃ x c, r = .returned (.slice x 0 c)) ∧ EyeAt w' E [] f ∧ Kp (Jb E) wx w') := hid (fun wx h => by
                have := text_any E [] f N wx h (by decide) HN.out.1 HN.out.2
                rw [stop_text f N HF.out] at this
                exact this.mono fun r w' ⟨⟨v', hr, hb⟩, h2, h3⟩ => by obtain ⟨x, c, rfl⟩ := none_shape hb; exact ⟨⟨x, c, hr⟩, h2, h3⟩)
              have CF : Hid (∀ wx : World, EyeAt wx E [] f → Calls Try.prog 46 #[.pointer (some ⟨E, 0, none⟩), .int .i64 N] wx fun r w' => (∃ x c, r = .returned (.slice x 0 c)) ∧ EyeAt w' E [] f ∧ Kp (Jb E) wx w') := hid (fun wx h => by
                have := fixed_any E [] f N wx h (by decide)
                rw [stop_fixed f N HF.out] at this
                exact this.mono fun r w' ⟨⟨v', hr, hb⟩, h2, h3⟩ => by obtain ⟨x, c, rfl⟩ := none_shape hb; exact ⟨⟨x, c, hr⟩, h2, h3⟩)
              have CL : Hid (∀ wx : World, EyeAt wx E [] f → Calls Try.prog 53 #[.pointer (some ⟨E, 0, none⟩)] wx fun r w' => r = .returned (.int .i64 0) ∧ EyeAt w' E [] f ∧ Kp (Jb E) wx w') := hid (fun wx h => (left_any E [] f wx h).mono fun r w' ⟨hr, hw⟩ => by subst hw; exact ⟨hr, h, Kp.refl _ _⟩)
              go_region_held3 (fun w' => w'.cell? ⟨Bx, 1, none⟩ = some (.int .i64 N) ∧ w'.cell? ⟨Bx, 2, none⟩ = some (.int .u64 U))
                (first | exact ⟨s1, s2⟩ | exact stop_held HBX.out kh.out HNE.out)
                (first
                  | (go_at_call 41; refine (CN.out _ (by first | with_reducible exact HQB.out | with_reducible exact EyeAt.kept HQB.out (Kp.drew (Kp.refl Nb _)) (fun _ _ h => h))).mono ?_; rintro e wy ⟨rfl, q', k'⟩; have HQB := hid q'; have kh := hid (Kp.trans (S := Jb E) (Kp.drew kh.out) k' (fun _ _ h => h)); clear q' k')
                  | (go_at_call 43; refine (CS.out _ HQB.out).mono ?_; rintro e wy ⟨rfl, q', k'⟩; have HQB := hid q'; have kh := hid (Kp.trans (S := Jb E) kh.out k' (fun _ _ h => h)); clear q' k')
                  | (go_at_call 44; refine (CT.out _ HQB.out).mono ?_; rintro e wy ⟨⟨xt, ct, rfl⟩, q', k'⟩; have HQB := hid q'; have kh := hid (Kp.trans (S := Jb E) kh.out k' (fun _ _ h => h)); clear q' k')
                  | (go_at_call 46; refine (CF.out _ HQB.out).mono ?_; rintro e wy ⟨⟨xf, cf, rfl⟩, q', k'⟩; have HQB := hid q'; have kh := hid (Kp.trans (S := Jb E) kh.out k' (fun _ _ h => h)); clear q' k')
                  | (go_at_call 53; refine (CL.out _ HQB.out).mono ?_; rintro e wy ⟨rfl, q', k'⟩; have HQB := hid q'; have kh := hid (Kp.trans (S := Jb E) kh.out k' (fun _ _ h => h)); clear q' k'))
              all_goals
                go_wp2_with fail
                refine (fail_any E [] f 10 _ HQB.out).mono ?_
                rintro e wz ⟨rfl, qz, kz⟩
                have ez1 : failS [] f 10 = [] := by unfold failS; rw [if_neg (fun h => HF.out h.1)]
                have ez2 : failE f 10 = f := by unfold failE; rw [if_neg (fun h => HF.out h.1)]
                rw [ez1, ez2] at qz
                have HRel := hid (show StopR w E f os.length (.int .i64 ((j : Int) + 1)) wz from ⟨j + 1, by omega, by go_num, qz, HKB.out.trans (Kp.trans (S := Jb E) kh.out kz (fun _ _ h => h)) (fun i hi h => by have := HE.out; unfold Jb at h; omega)⟩)
                clear qz kz ez1 ez2 HQB kh HKB HBX
                go_wp2
                first
                  | exact ⟨HRel.out, by simp [intOf]; omega⟩
                  | (go_roundw
                     case rel => exact HRel.out
                     case measure => simp [intOf]; omega)
          · obtain rfl : j = os.length := by omega
            go_wp2_with fail
            refine (err_any E [] f _ HQ.out).mono ?_
            rintro e w4 ⟨rfl, rfl⟩
            go_wp2_with fail
            refine (end_any E [] f _ HQ.out).mono ?_
            rintro e w5 ⟨rfl, h5, k5⟩
            have K5 := hid (HK.out.trans k5 (fun i hi h => by have := HE.out; unfold Jb at h; omega))
            clear h5 k5
            have he : endE [] f = f := rfl
            go_wp2
            go_ret
            exact ⟨rfl, K5.out⟩

end Go.Proofs.Ytfbpaakgifnmaaa
