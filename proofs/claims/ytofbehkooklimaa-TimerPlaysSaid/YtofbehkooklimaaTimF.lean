/-
  Layer 23: the walk of the reference's Tick. Conditions: what an int is; a timer that New has made.
-/
import Derived.Test.YtofbehkooklimaaTimE
namespace Go.Proofs.Ytofbehkooklimaa
open Go.RowKit

theorem rwait_int (e k : Int) (w : World) (h1 : 1 ≤ e) (h2 : e ≤ 1000) (h3 : 0 ≤ k) : Calls Try.prog 34 #[.int .i64 e, .int .i64 k] w fun r w' => r = .returned (.int .i64 (e * timesZ k.toNat)) ∧ w = w' := by
  have := rwait_any e k.toNat w h1 h2
  rw [Int.toNat_of_nonneg h3] at this
  exact this

set_option maxRecDepth 100000 in
set_option maxHeartbeats 1000000 in
theorem rtick_any (B : Nat) (t : Tm) (now : Int) (w : World) (h : RtmAt w B t) (hk : t.Ok) :
    Calls Try.prog 31 #[.pointer (some ⟨B, 0, none⟩), .int .i64 now] w fun r w' => r = .returned (.int .i64 (t.says now)) ∧ RtmAt w' B (t.next now) ∧ Kp (Jb B) w w' := by
  have hl := heldZ_le now
  obtain ⟨z, hz⟩ : ∃ z, z = heldZ now := ⟨_, rfl⟩
  have CH : Hid (∀ w, Calls Try.prog 30 #[.int .i64 now] w fun r w' => r = .returned (.int .i64 z) ∧ w = w') := fun w => by rw [hz]; exact rheld_any now w
  rw [← hz] at hl
  have H := hid h
  have HK := hid hk
  have c0 := Blk.cell h 0
  have c1 := Blk.cell h 1
  have c2 := Blk.cell h 2
  have c3 := Blk.cell h 3
  have c4 := Blk.cell h 4
  have f2 := Blk.frozen h 2
  have f3 := Blk.frozen h 3
  have f4 := Blk.frozen h 4
  simp only [List.getElem?_cons_zero, List.getElem?_cons_succ] at c0 c1 c2 c3 c4
  by_cases hr : t.runs = false
  · have HS := hid (show t.says now = 0 from if_pos (.inl hr))
    have HN := hid (show t.next now = t from if_pos (.inl hr))
    rw [hr] at c4
    clear h hk hr c0 c1 c2 c3 f2 f3 f4
    go_enter Try.func31, Try.ntmps31
    go_wp2_with (go_at_call 30; refine (CH.out _).mono ?_; rintro r w' ⟨rfl, rfl⟩)
    go_ret
    exact ⟨tret_int HS.out.symm, by rw [HN.out]; exact H.out, Kp.refl _ _⟩
  · have hr' : t.runs = true := by simpa using hr
    rw [hr'] at c4
    by_cases hd : z < t.due
    · have HS := hid (show t.says now = 0 from if_pos (.inr (by rw [← hz]; exact hd)))
      have HN := hid (show t.next now = t from if_pos (.inr (by rw [← hz]; exact hd)))
      obtain ⟨d, hdd⟩ : ∃ d, d = t.due := ⟨_, rfl⟩
      rw [← hdd] at hd c3
      clear h hk hr hr' c0 c1 c2 f2 f3 f4 hdd hz
      go_enter Try.func31, Try.ntmps31
      go_wp2_with (go_at_call 30; refine (CH.out _).mono ?_; rintro r w' ⟨rfl, rfl⟩)
      go_ret
      exact ⟨tret_int HS.out.symm, by rw [HN.out]; exact H.out, Kp.refl _ _⟩
    · have hor : ¬ (t.runs = false ∨ heldZ now < t.due) := by rw [← hz]; intro h; rcases h with h | h; exact hr h; exact hd h
      by_cases he : t.tries ≤ t.fired
      · have HS := hid (show t.says now = 2 from by unfold Tm.says; rw [if_neg hor, if_pos he])
        have HN := hid (show t.next now = t.stop from by unfold Tm.next; rw [if_neg hor, if_pos he])
        have hef : t.fired = t.tries := by have := hk.f2; omega
        rw [hef] at c2
        obtain ⟨d, hdd⟩ : ∃ d, d = t.due := ⟨_, rfl⟩
        rw [← hdd] at hd c3
        have HS4 := hid (show RtmAt (w.setCell ⟨B, 4, none⟩ (.bool false)) B t.stop from Blk.set H.out 4 _)
        have K4 := hid ((Kp.refl (Jb B) w).set 4 (.bool false))
        clear h hk hr hr' hdd hz hor he hef c0 f2 f3
        go_enter Try.func31, Try.ntmps31
        go_wp2_with (go_at_call 30; refine (CH.out _).mono ?_; rintro r w' ⟨rfl, rfl⟩)
        go_quiet (fail)
        go_wp2
        go_ret
        exact ⟨tret_int HS.out.symm, by rw [HN.out]; exact HS4.out, K4.out.drewN nq⟩
      · have HS := hid (show t.says now = 1 from by unfold Tm.says; rw [if_neg hor, if_neg he])
        have HN := hid (show t.next now = { t with fired := t.fired + 1, due := heldZ now + t.every * timesZ (t.fired + 1).toNat } from by unfold Tm.next; rw [if_neg hor, if_neg he])
        obtain ⟨d, hdd⟩ : ∃ d, d = t.due := ⟨_, rfl⟩
        rw [← hdd] at hd c3
        have q1 := hk.f1
        have q2 := hk.f2
        have q3 := hk.t2
        have hw := wait_le hk.e1 hk.e2 (t.fired + 1).toNat
        have CW : Hid (∀ w, Calls Try.prog 34 #[.int .i64 t.every, .int .i64 (t.fired + 1)] w fun r w' => r = .returned (.int .i64 (t.every * timesZ (t.fired + 1).toNat)) ∧ w = w') := fun w => rwait_int _ _ w HK.out.e1 HK.out.e2 (by have := HK.out.f1; omega)
        obtain ⟨v, hv⟩ : ∃ v, v = t.every * timesZ (t.fired + 1).toNat := ⟨_, rfl⟩
        rw [← hv] at hw HN CW
        rw [← hz] at HN
        have hwr : IntKind.i64.wrap (z + v) = z + v := IntWalk.i64_in _ (by omega)
        have hne : (t.fired == t.tries) = false := by rw [beq_eq_false_iff_ne]; omega
        have HF := hid (show RtmAt ((w.setCell ⟨B, 2, none⟩ (.int .i64 (t.fired + 1))).setCell ⟨B, 3, none⟩ (.int .i64 (z + v))) B { t with fired := t.fired + 1, due := z + v } from (Blk.set H.out 2 (.int .i64 (t.fired + 1))).set 3 _)
        have KF := hid (((Kp.refl (Jb B) w).set 2 (.int .i64 (t.fired + 1))).set 3 (.int .i64 (z + v)))
        clear h hk hr hr' hdd hz hor hv f4
        go_enter Try.func31, Try.ntmps31
        go_wp2_with (go_at_call 30; refine (CH.out _).mono ?_; rintro r w' ⟨rfl, rfl⟩)
        go_quiet (fail)
        go_wp2_with fail
        go_region_with (go_at_call 34; refine (CW.out _).mono ?_; rintro r w' ⟨rfl, rfl⟩)
        all_goals
          go_wp2
          go_ret
          exact ⟨tret_int HS.out.symm, by rw [HN.out]; exact HF.out, (KF.out.drewN _).drew⟩

end Go.Proofs.Ytofbehkooklimaa
