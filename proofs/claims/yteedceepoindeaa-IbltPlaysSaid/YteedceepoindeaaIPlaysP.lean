/-
  PROVED: 'IbltPlaysSaid': whatever the size, the cells and the operations, IbltPlays returns true and the input reads as it did. No condition.
-/
import Derived.Test.YteedceepoindeaaRows
import Derived.Test.YteedceepoindeaaPkW
namespace Go.Proofs.Yteedceepoindeaa
open Go.ChangeShapes Go.WideShapes Go.ChangeAt Go.RowKit

set_option maxRecDepth 100000 in
theorem iplays_lifted (os : Os) (started : os.Started) (H : Type) (enc : TypeId × Value → H) :
    ReturnsInHanded {} Try.checked os 4 .any (Rows.ibltPlaysSpec.pre6 enc Try.prog Try.f4 Rows.ibltPlaysRow.domain false) (Rows.ibltPlaysSpec.post enc Try.prog Try.f4 false true false false) := by
  refine returnsInHanded_of_change (C := Try.checked) own started (by kernel_rfl) Try.func4
    (ChangeSpec.witness6 (enc := enc) (C := Try.checked) false ⟨#[], #[.int .i64 0, .slice none 0 0, .slice none 0 0], []⟩ 8 (by kernel_rfl) (by kernel_rfl) (by kernel_rfl) (by kernel_rfl)) ?_
  intro W base args ds gs before hval0 hW hcnd _
  have hval : ∀ (j : Nat) t v, Try.f4.params[j]? = some t → args[j]? = some v → Value.okWide Try.prog W .any base t v := hval0
  have hW' := hW
  obtain ⟨p, q, hA0, hV, rfl, hfz, hnd⟩ := hW
  have hA : DataW.TrodAll enc Try.prog W 0 (fun _ => true) true Try.f4.params.toList args.toList ds p := hA0
  rw [Try.params4] at hA hval
  obtain ⟨v0, vs0, d0, ds0, p0, q0, hargs, rfl, rfl, h0, r0⟩ := trodAll_cons hA
  obtain ⟨v1, vs1, d1, ds1, p1, q1, rfl, rfl, rfl, h1, r1⟩ := trodAll_cons r0
  obtain ⟨v2, vs2, d2, ds2, p2, q2, rfl, rfl, rfl, h2, r2⟩ := trodAll_cons r1
  obtain ⟨rfl, rfl, rfl⟩ := trodAll_nil r2
  obtain rfl : args = #[v0, v1, v2] := by cases args; simp_all
  obtain ⟨rfl, rfl⟩ := trodVars_none hV
  have lt0 : ∀ x ∈ p0, x.block < W.heap.size := by obtain ⟨m, hm⟩ := h0; exact DataW.trod_lt m _ _ _ hm
  have lt1 : ∀ x ∈ p1, x.block < W.heap.size := by obtain ⟨m, hm⟩ := h1; exact DataW.trod_lt m _ _ _ hm
  have lt2 : ∀ x ∈ p2, x.block < W.heap.size := by obtain ⟨m, hm⟩ := h2; exact DataW.trod_lt m _ _ _ hm
  obtain ⟨n0, rfl⟩ := okWide_int Try.underlying3 (hval 0 3 v0 rfl rfl)
  obtain ⟨cs1, O1, S1⟩ := open_cellsv (hval 1 35 v1 rfl rfl) h1
  obtain ⟨os2, O2, S2⟩ := open_opsv (hval 2 36 v2 rfl rfl) h2
  have hn := open_intv h0
  clear hA0 hval0
  have main : Calls Try.prog 4 #[.int .i64 n0, v1, v2] W fun e w' => e = .returned (.bool true) ∧ Kp Nb W w' := by
    have sh : ∃ y d, v2 = .slice y os2.length d := S2.shape
    cases hx : fitB n0 with
    | false => cases hy : fitB (cs1.length : Int) with
      | false => exact iplays_nn n0 v1 v2 cs1 os2.length W hn S1 O1 sh hx hy
      | true => exact iplays_ny n0 v1 v2 cs1 os2.length W hn S1 O1 sh hx hy
    | true => cases hy : fitB (cs1.length : Int) with
      | false => exact iplays_yn n0 v1 v2 cs1 os2.length W hn S1 O1 sh hx hy
      | true => exact iplays_yy n0 v1 v2 cs1 os2 W hn S1 O1 S2 O2 hx hy
  refine main.mono fun e W' ⟨he, kp⟩ => ?_
  subst he
  have bel : Below W.heap.size W W' := kp.below (Nat.le_refl _) (fun _ _ h => h)
  exact ⟨_, rfl, _, _, _, [], _, [], hW', trodAll_mk1 (shut_bool Try.underlying4 _), (trodAll_cons_mk (Below.trod laidOut (by kernel_rfl) (of_decide_eq_true (by kernel_rfl)) h0 bel lt0) (trodAll_cons_mk (Below.trod laidOut (by kernel_rfl) (of_decide_eq_true (by kernel_rfl)) h1 bel lt1) (trodAll_cons_mk (Below.trod laidOut (by kernel_rfl) (of_decide_eq_true (by kernel_rfl)) h2 bel lt2) trodAll_mk0))), rfl, bel.frame _, fun h => by cases h⟩

theorem iplays_over : Rows.ibltPlaysRow.holds Try.pinned (OpenSpec.ofChange Rows.ibltPlaysSpec) :=
  OpenClaim.holds_of_wide 4 Try.f4 rfl rfl rfl rfl rfl rfl rfl ⟨rfl, rfl, rfl, rfl, rfl⟩ rfl rfl rfl rfl rfl (by kernel_rfl) Try.func4 (by kernel_rfl)
    (of_decide_eq_true (by kernel_rfl)) (by unfold Func.isWrapper; first | (rw [if_pos (by decide +kernel)]; kernel_rfl) | (rw [if_neg (by decide +kernel)]; exact ⟨rfl, rfl⟩))
    (fun os started H enc _ => iplays_lifted os started H enc)

theorem iplays_said : Rows.IbltPlaysSaid := iplays_over
end Go.Proofs.Yteedceepoindeaa
