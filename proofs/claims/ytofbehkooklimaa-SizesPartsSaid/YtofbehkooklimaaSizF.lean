/-
  Layer 14: the walk of SizesParts. Condition: what an int is.
-/
import Derived.Test.YtofbehkooklimaaSizE
namespace Go.Proofs.Ytofbehkooklimaa
open Go.RowKit

set_option maxRecDepth 100000 in
set_option maxHeartbeats 2000000 in
theorem parts_law (s p : Int) (w : World) :
    Calls Try.prog 4 #[.int .i64 s, .int .i64 p] w fun e w' => e = .returned (.bool true) ∧ Kp Nb w w' := by
  have CG : Hid (∀ w, Calls Try.prog 17 #[.int .i64 s, .int .i64 p] w fun e w' => e = .returned (.tuple #[.int .i64 (fromZ s p), .int .i64 (toZ s p), .bool (partB s p)]) ∧ w = w') := fun w => range_any s p w
  have CP : Hid (∀ w, Calls Try.prog 19 #[.int .i64 s] w fun e w' => e = .returned (.int .i64 (partsZ s)) ∧ w = w') := fun w => parts_any s w
  have CB : Hid (∀ w, Calls Try.prog 20 #[.int .i64 s] w fun e w' => e = .returned (.int .i64 (bytesZ s)) ∧ w = w') := fun w => bytes_any s w
  have CF : Hid (∀ w, Calls Try.prog 18 #[.int .i64 s] w fun e w' => e = .returned (.bool (fitsB s)) ∧ w = w') := fun w => rfits_any s w
  cases hf : fitsB s with
  | false =>
    have hp := partB_none (p := p) hf
    rw [partsZ_f hf] at CP
    rw [hf] at CF
    rw [show bytesZ s = 0 from by unfold bytesZ; rw [hf]; rfl] at CB
    rw [show fromZ s p = 0 from by unfold fromZ; rw [hp]; rfl, show toZ s p = 0 from by unfold toZ; rw [hp]; rfl, hp] at CG
    clear hp hf
    go_enter Try.func4, Try.ntmps4
    go_wp2_with fail
    refine (first14_any _).mono ?_
    rintro e w1 ⟨rfl, k1⟩
    have K1 := hid k1
    clear k1
    go_wp2_with (first
      | (go_at_call 17; refine (CG.out _).mono ?_; rintro e w' ⟨rfl, rfl⟩)
      | (go_at_call 18; refine (CF.out _).mono ?_; rintro e w' ⟨rfl, rfl⟩)
      | (go_at_call 19; refine (CP.out _).mono ?_; rintro e w' ⟨rfl, rfl⟩)
      | (go_at_call 20; refine (CB.out _).mono ?_; rintro e w' ⟨rfl, rfl⟩))
    go_ret
    exact ⟨rfl, K1.out⟩
  | true =>
    obtain ⟨h1, h2, -⟩ := fitsB_spec hf
    have CR : Hid (∀ w, Calls Try.prog 21 #[.int .i64 s] w fun e w' => (∃ v, e = .returned v ∧ IntRow w' v (cutsL s ((s + 47) / 48).toNat)) ∧ Kp Nb w w') := fun w => rparts_walk s w h1 h2
    rw [partsZ_t hf] at CP
    rw [hf] at CF
    rw [show bytesZ s = 28 * s from by unfold bytesZ; rw [hf]; rfl] at CB
    obtain ⟨P, hP⟩ : ∃ P : Nat, (P : Int) = (s + 47) / 48 := ⟨((s + 47) / 48).toNat, by omega⟩
    have hPs : Hid (48 * ((P : Int) - 1) < s ∧ s ≤ 48 * (P : Int)) := by unfold Hid; omega
    have hPN : ((s + 47) / 48).toNat = P := by omega
    have hzP := hid ((partsZ_t hf).trans hP.symm)
    rw [hPN] at CR
    rw [← hP] at CP
    have hP32 : P ≤ 32 := by omega
    clear hP hPN hf
    cases hb : partB s p with
    | false =>
      have hn := partB_not hb
      rw [hzP.out] at hn
      rw [show fromZ s p = 0 from by unfold fromZ; rw [hb]; rfl, show toZ s p = 0 from by unfold toZ; rw [hb]; rfl, hb] at CG
      clear hb
      by_cases hp0 : p < 0
      all_goals
        have hq : p < 0 ∨ (P : Int) ≤ p := hn
        clear hn
        go_enter Try.func4, Try.ntmps4
        go_wp2_with fail
        refine (first14_any _).mono ?_
        rintro e w1 ⟨rfl, k1⟩
        have K1 := hid k1
        clear k1
        go_wp2_with (first
          | (go_at_call 17; refine (CG.out _).mono ?_; rintro e w' ⟨rfl, rfl⟩)
          | (go_at_call 18; refine (CF.out _).mono ?_; rintro e w' ⟨rfl, rfl⟩))
        refine (CR.out _).mono ?_
        rintro e w2 ⟨⟨v, rfl, hr⟩, k2⟩
        have K2 := hid (K1.out.trans k2 (fun _ _ h => h))
        obtain ⟨x, c, rfl⟩ := hr.shape
        rw [cutsL_length]
        clear k2 K1 hr
        have hq2 : ¬ p < 0 → (P : Int) ≤ p := fun h => by omega
        clear hq
        first
          | (have hq3 := hq2 (by omega)
             clear hq2
             go_wp2_with (first
               | (go_at_call 19; refine (CP.out _).mono ?_; rintro e w' ⟨rfl, rfl⟩)
               | (go_at_call 20; refine (CB.out _).mono ?_; rintro e w' ⟨rfl, rfl⟩))
             go_ret
             exact ⟨rfl, K2.out⟩)
          | (clear hq2
             go_wp2_with (first
               | (go_at_call 19; refine (CP.out _).mono ?_; rintro e w' ⟨rfl, rfl⟩)
               | (go_at_call 20; refine (CB.out _).mono ?_; rintro e w' ⟨rfl, rfl⟩))
             go_ret
             exact ⟨rfl, K2.out⟩)
    | true =>
      obtain ⟨h3, h4⟩ := partB_spec hb
      rw [hzP.out] at h4
      obtain ⟨q, rfl⟩ : ∃ q : Nat, p = (q : Int) := ⟨p.toNat, by omega⟩
      have hq : q < P := by omega
      have hE1 : min (48 * (q : Int)) s = (q : Int) * 48 := by have := hPs.out; omega
      have hE2 : min (48 * ((q + 1 : Nat) : Int)) s = min ((q : Int) * 48 + 48) s := by congr 1; omega
      obtain ⟨t, ht⟩ : ∃ t, t = min ((q : Int) * 48 + 48) s := ⟨_, rfl⟩
      rw [← ht] at hE2
      rw [show fromZ s q = (q : Int) * 48 from by unfold fromZ; rw [hb]; rfl, show toZ s q = t from by unfold toZ; rw [hb, ht]; rfl, hb] at CG
      have HE1 := hid hE1
      have HE2 := hid hE2
      clear hb hE1 hE2 ht h4
      go_enter Try.func4, Try.ntmps4
      go_wp2_with fail
      refine (first14_any _).mono ?_
      rintro e w1 ⟨rfl, k1⟩
      have K1 := hid k1
      clear k1
      go_wp2_with (first
        | (go_at_call 17; refine (CG.out _).mono ?_; rintro e w' ⟨rfl, rfl⟩)
        | (go_at_call 18; refine (CF.out _).mono ?_; rintro e w' ⟨rfl, rfl⟩))
      refine (CR.out _).mono ?_
      rintro e w2 ⟨⟨v, rfl, hr⟩, k2⟩
      have K2 := hid (K1.out.trans k2 (fun _ _ h => h))
      obtain ⟨g, c, rfl, hcell⟩ := hr.some (by rw [cutsL_length]; omega)
      have c1 := hcell q (by rw [cutsL_length]; omega)
      have c2 := hcell (q + 1) (by rw [cutsL_length]; omega)
      rw [cutsL_get _ _ _ (by omega), HE1.out] at c1
      rw [cutsL_get _ _ _ (by omega), HE2.out] at c2
      rw [cutsL_length]
      clear k2 K1 hr hcell
      go_wp2_with (first
        | (go_at_call 19; refine (CP.out _).mono ?_; rintro e w' ⟨rfl, rfl⟩)
        | (go_at_call 20; refine (CB.out _).mono ?_; rintro e w' ⟨rfl, rfl⟩))
      go_ret
      exact ⟨rfl, K2.out⟩

end Go.Proofs.Ytofbehkooklimaa
