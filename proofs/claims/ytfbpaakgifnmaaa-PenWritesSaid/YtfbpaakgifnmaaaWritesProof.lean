/-
  PROVED: 'PenWritesSaid' of layer 2: whatever is written, and whatever the two numbers, PenWrites returns true and the input reads as it did. No condition.
-/
import Derived.Test.YtfbpaakgifnmaaaRows
import Derived.Test.YtfbpaakgifnmaaaLawWrites
import Derived.Test.YtfbpaakgifnmaaaOpenOut
namespace Go.Proofs.Ytfbpaakgifnmaaa
open Go.ChangeShapes Go.WideShapes Go.ChangeAt Go.RowKit

set_option maxRecDepth 100000 in
theorem writes_lifted (os : Os) (started : os.Started) (H : Type) (enc : TypeId × Value → H) :
    ReturnsInHanded {} Try.checked os 7 .any (Rows.penWritesSpec.pre6 enc Try.prog Try.f7 Rows.penWritesRow.domain false) (Rows.penWritesSpec.post enc Try.prog Try.f7 false true false false) := by
  refine returnsInHanded_of_change_sized (C := Try.checked) own started (by kernel_rfl) Try.func7
    (ChangeSpec.witness6 (enc := enc) (C := Try.checked) false ⟨#[], #[.slice none 0 0, .int .u64 0, .int .i64 0], []⟩ 8 (by kernel_rfl) (by kernel_rfl) (by kernel_rfl) (by kernel_rfl)) ?_
  intro W base args ds gs before hval0 hW hcnd hsz0 _
  have hsz : (DataW.weightsEach Try.prog (Try.f7.params.toList ++ Rows.penWritesSpec.plain.varTypes Try.prog) (ds ++ gs)).all (· ≤ reachBytes) = true := hsz0
  clear hsz0
  have hval : ∀ (j : Nat) t v, Try.f7.params[j]? = some t → args[j]? = some v → Value.okWide Try.prog W .any base t v := hval0
  have hW' := hW
  obtain ⟨p, q, hA0, hV, rfl, hfz, hnd⟩ := hW
  have hA : DataW.TrodAll enc Try.prog W 0 (fun _ => true) true Try.f7.params.toList args.toList ds p := hA0
  rw [Try.params7] at hA hval hsz
  obtain ⟨v0, vs0, d0, ds0, p0, q0, hargs, rfl, rfl, h0, r0⟩ := trodAll_cons hA
  obtain ⟨v1, vs1, d1, ds1, p1, q1, rfl, rfl, rfl, h1, r1⟩ := trodAll_cons r0
  obtain ⟨v2, vs2, d2, ds2, p2, q2, rfl, rfl, rfl, h2, r2⟩ := trodAll_cons r1
  obtain ⟨rfl, rfl, rfl⟩ := trodAll_nil r2
  obtain rfl : args = #[v0, v1, v2] := by cases args; simp_all
  obtain ⟨rfl, rfl⟩ := trodVars_none hV
  have lt0 : ∀ x ∈ p0, x.block < W.heap.size := by obtain ⟨m, hm⟩ := h0; exact DataW.trod_lt m _ _ _ hm
  have lt1 : ∀ x ∈ p1, x.block < W.heap.size := by obtain ⟨m, hm⟩ := h1; exact DataW.trod_lt m _ _ _ hm
  have lt2 : ∀ x ∈ p2, x.block < W.heap.size := by obtain ⟨m, hm⟩ := h2; exact DataW.trod_lt m _ _ _ hm
  obtain ⟨U, rfl⟩ := okWide_int Try.underlying22 (hval 1 22 v1 rfl rfl)
  obtain ⟨n, rfl⟩ := okWide_int Try.underlying3 (hval 2 3 v2 rfl rfl)
  have hU : 0 ≤ U ∧ U < 18446744073709551616 := by
    obtain ⟨fuel, hf⟩ := h1
    obtain ⟨b, hb, hw⟩ := DataW.trod_int Try.underlying22 hf
    simp [Value.cells] at hb
    subst hb
    have w1 := hw.2
    simp [Lit.wf] at w1
    have hminu : IntKind.u64.min = 0 := by decide
    have hmaxu : IntKind.u64.max = 18446744073709551615 := by decide
    omega
  have hN : -9223372036854775808 ≤ n ∧ n < 9223372036854775808 := by
    obtain ⟨fuel, hf⟩ := h2
    obtain ⟨b, hb, hw⟩ := DataW.trod_int Try.underlying3 hf
    simp [Value.cells] at hb
    subst hb
    have w1 := hw.2
    simp [Lit.wf] at w1
    have hmin : IntKind.i64.min = -9223372036854775808 := by decide
    omega
  obtain ⟨outs, ho, hok⟩ := open_outs (j0 := 0) h0 (okWide_slice Try.underlying54 (hval 0 54 v0 rfl rfl)) hsz rfl rfl
  clear hA0 hval0
  refine (writes_walk v0 outs U n W ho hok hU.1 hU.2 hN.1 hN.2).mono fun e W' ⟨he, kp⟩ => ?_
  subst he
  have bel : Below W.heap.size W W' := kp.below (Nat.le_refl _) (fun _ _ h => h)
  exact ⟨_, rfl, _, _, _, [], _, [], hW', trodAll_mk1 (shut_bool Try.underlying4 _), (trodAll_cons_mk (Below.trod laidOut (by kernel_rfl) (of_decide_eq_true (by kernel_rfl)) h0 bel lt0) (trodAll_cons_mk (Below.trod laidOut (by kernel_rfl) (of_decide_eq_true (by kernel_rfl)) h1 bel lt1) (trodAll_cons_mk (Below.trod laidOut (by kernel_rfl) (of_decide_eq_true (by kernel_rfl)) h2 bel lt2) trodAll_mk0))), rfl, bel.frame _, fun h => by cases h⟩

theorem writes_over : Rows.penWritesRow.holds Try.pinned (OpenSpec.ofChange Rows.penWritesSpec) :=
  OpenClaim.holds_of_wide 7 Try.f7 rfl rfl rfl rfl rfl rfl rfl ⟨rfl, rfl, rfl, rfl, rfl⟩ rfl rfl rfl rfl rfl (by kernel_rfl) Try.func7 (by kernel_rfl)
    (of_decide_eq_true (by kernel_rfl)) (by unfold Func.isWrapper; first | (rw [if_pos (by decide +kernel)]; kernel_rfl) | (rw [if_neg (by decide +kernel)]; exact ⟨rfl, rfl⟩))
    (fun os started H enc _ => writes_lifted os started H enc)

theorem writes_said : Rows.PenWritesSaid := writes_over
end Go.Proofs.Ytfbpaakgifnmaaa
