/-
  Layer 23: walks of Tick and of the reference's Tick. Conditions: what an int is; a timer that New has made.
-/
import Derived.Test.YtofbehkooklimaaTimD
namespace Go.Proofs.Ytofbehkooklimaa
open Go.RowKit

theorem ttick_none (now : Int) (w : World) : Calls Try.prog 28 #[.pointer none, .int .i64 now] w fun r w' => r = .returned (.int .i64 0) ∧ w = w' := by
  go_enter Try.func28, Try.ntmps28
  go_wp2_with (go_at_call 27; refine (tdue_none _).mono ?_; rintro r w' ⟨rfl, rfl⟩)
  go_ret
  exact ⟨rfl, rfl⟩

set_option maxRecDepth 100000 in
set_option maxHeartbeats 1000000 in
theorem ttick_any (B : Nat) (t : Tm) (now : Int) (w : World) (h : TimAt w B t) (hk : t.Ok) :
    Calls Try.prog 28 #[.pointer (some ⟨B, 0, none⟩), .int .i64 now] w fun r w' => r = .returned (.int .i64 (t.says now)) ∧ TimAt w' B (t.next now) ∧ Kp (Jb B) w w' := by
  have hl := heldZ_le now
  obtain ⟨z, hz⟩ : ∃ z, z = heldZ now := ⟨_, rfl⟩
  have CH : Hid (∀ w, Calls Try.prog 45 #[.int .i64 now] w fun r w' => r = .returned (.int .i64 z) ∧ w = w') := fun w => by rw [hz]; exact held_any now w
  rw [← hz] at hl
  have CD : Hid (Calls Try.prog 27 #[.pointer (some ⟨B, 0, none⟩)] w fun r w' => r = .returned (.tuple #[.int .i64 (if t.runs = true then t.due else 0), .bool t.runs]) ∧ w = w') := tdue_any B t w h
  have H := hid h
  have HK := hid hk
  have c1 := Blk.cell h 1
  have c4 := Blk.cell h 4
  have f4 := Blk.frozen h 4
  simp only [List.getElem?_cons_zero, List.getElem?_cons_succ] at c1 c4
  by_cases hr : t.runs = false
  · have HS := hid (show t.says now = 0 from if_pos (.inl hr))
    have HN := hid (show t.next now = t from if_pos (.inl hr))
    rw [hr] at CD
    clear h hk hr c1 c4 f4
    go_enter Try.func28, Try.ntmps28
    go_wp2_with (go_at_call 27; refine CD.out.mono ?_; rintro r w' ⟨rfl, rfl⟩)
    go_ret
    exact ⟨tret_int HS.out.symm, by rw [HN.out]; exact H.out, Kp.refl _ _⟩
  · have hr' : t.runs = true := by simpa using hr
    rw [if_pos hr', hr'] at CD
    by_cases hd : z < t.due
    · have HS := hid (show t.says now = 0 from if_pos (.inr (by rw [← hz]; exact hd)))
      have HN := hid (show t.next now = t from if_pos (.inr (by rw [← hz]; exact hd)))
      obtain ⟨d, hdd⟩ : ∃ d, d = t.due := ⟨_, rfl⟩
      rw [← hdd] at hd CD
      clear h hk hr hr' c1 c4 f4 hdd hz
      go_enter Try.func28, Try.ntmps28
      go_wp2_with (first
        | (go_at_call 27; refine CD.out.mono ?_; rintro r w' ⟨rfl, rfl⟩)
        | (go_at_call 45; refine (CH.out _).mono ?_; rintro r w' ⟨rfl, rfl⟩))
      go_ret
      exact ⟨tret_int HS.out.symm, by rw [HN.out]; exact H.out, Kp.refl _ _⟩
    · have hor : ¬ (t.runs = false ∨ heldZ now < t.due) := by rw [← hz]; intro h; rcases h with h | h; exact hr h; exact hd h
      by_cases he : t.tries ≤ t.fired
      · have HS := hid (show t.says now = 2 from by unfold Tm.says; rw [if_neg hor, if_pos he])
        have HN := hid (show t.next now = t.stop from by unfold Tm.next; rw [if_neg hor, if_pos he])
        obtain ⟨d, hdd⟩ : ∃ d, d = t.due := ⟨_, rfl⟩
        rw [← hdd] at hd CD
        clear h hk hr hr' f4 hdd hz hor
        go_enter Try.func28, Try.ntmps28
        go_wp2_with (first
          | (go_at_call 27; refine CD.out.mono ?_; rintro r w' ⟨rfl, rfl⟩)
          | (go_at_call 45; refine (CH.out _).mono ?_; rintro r w' ⟨rfl, rfl⟩))
        go_quiet (fail)
        have HD := hid (show TimAt (w.drewN nq) B t from H.out)
        go_wp2_with fail
        refine (tstop_any B t _ HD.out).mono ?_
        rintro r w2 ⟨rfl, h2, k2⟩
        have H2 := hid h2
        have K2 := hid (((Kp.refl (Jb B) w).drewN nq).trans k2 (fun _ _ h => h))
        clear h2 k2
        go_wp2
        go_ret
        exact ⟨tret_int HS.out.symm, by rw [HN.out]; exact H2.out, K2.out⟩
      · have HS := hid (show t.says now = 1 from by unfold Tm.says; rw [if_neg hor, if_neg he])
        have HN := hid (show t.next now = { t with fired := t.fired + 1, due := heldZ now + t.every * timesZ (t.fired + 1).toNat } from by unfold Tm.next; rw [if_neg hor, if_neg he])
        obtain ⟨d, hdd⟩ : ∃ d, d = t.due := ⟨_, rfl⟩
        rw [← hdd] at hd CD
        have q1 := hk.f1
        have q2 := hk.f2
        have q3 := hk.t2
        have hw := wait_le hk.e1 hk.e2 (t.fired + 1).toNat
        obtain ⟨v, hv⟩ : ∃ v, v = t.every * timesZ (t.fired + 1).toNat := ⟨_, rfl⟩
        rw [← hv] at hw HN
        have HV := hid hv
        have HZ := hid hz
        rw [← hz] at HN
        have hwr : IntKind.i64.wrap (z + v) = z + v := IntWalk.i64_in _ (by omega)
        clear h hk hr hr' hdd hz hor hv
        go_enter Try.func28, Try.ntmps28
        go_wp2_with (first
          | (go_at_call 27; refine CD.out.mono ?_; rintro r w' ⟨rfl, rfl⟩)
          | (go_at_call 45; refine (CH.out _).mono ?_; rintro r w' ⟨rfl, rfl⟩))
        go_quiet (fail)
        have d4 : (w.drewN nq).cell? ⟨B, 4, none⟩ = some (.int .i64 t.fired) := c4
        have HD := hid (show TimAt (w.drewN nq) B t from H.out)
        have hfz := Blk.frozen HD.out 4
        have HD2 := hid (show TimAt ((w.drewN nq).setCell ⟨B, 4, none⟩ (.int .i64 (t.fired + 1))) B { t with fired := t.fired + 1 } from Blk.set HD.out 4 _)
        have K2 := hid (((Kp.refl (Jb B) w).drewN nq).set 4 (.int .i64 (t.fired + 1)))
        have HOK2 := hid (show Tm.Ok { t with fired := t.fired + 1 } from ⟨HK.out.e1, HK.out.e2, HK.out.t1, HK.out.t2, by dsimp only; omega, by dsimp only; omega⟩)
        go_wp2_with fail
        refine (CH.out _).mono ?_
        rintro r w' ⟨rfl, rfl⟩
        go_wp2_with fail
        refine (wait_any B _ _ HD2.out HOK2.out).mono ?_
        rintro r w3 ⟨rfl, k3⟩
        dsimp only
        rw [← HV.out]
        have HD3 := hid (Blk.kept HD2.out k3 (fun h => h))
        have K3 := hid (K2.out.trans k3 (fun _ _ h => absurd h (fun h => h)))
        have g3 := Blk.cell HD3.out 3
        have z3 := Blk.frozen HD3.out 3
        simp only [List.getElem?_cons_zero, List.getElem?_cons_succ] at g3
        have HF := hid (show TimAt (w3.setCell ⟨B, 3, none⟩ (.int .i64 (z + v))) B { t with fired := t.fired + 1, due := z + v } from Blk.set HD3.out 3 _)
        clear k3 d4 hfz c1 c4 f4
        go_wp2
        go_ret
        exact ⟨tret_int HS.out.symm, by rw [HN.out]; exact HF.out, K3.out.set 3 _⟩

end Go.Proofs.Ytofbehkooklimaa
