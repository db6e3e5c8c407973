/-
  Layer 9: two rising lists of the same members are one; the statements' own first. No condition.
-/
import Derived.Test.YtijlmfmpfjjlpaaMaN
namespace Go.Proofs.Ytijlmfmpfjjlpaa
open Go.RowKit Go.Shelf
attribute [local go_sem] Oper.semAt_some

theorem pair_rise {ms : List (List Int)} (h : Rise ms) : ms.Pairwise fun x y => lexI x y = true := by
  rw [List.pairwise_iff_getElem]
  intro i j hi hj hij
  have := h i j hij hj
  unfold markAt at this
  rw [List.getElem?_eq_getElem hj, List.getElem?_eq_getElem hi] at this
  exact this
theorem pair_unique : ∀ (xs ys : List (List Int)), (xs.Pairwise fun x y => lexI x y = true) → (ys.Pairwise fun x y => lexI x y = true) → (∀ m, m ∈ xs ↔ m ∈ ys) → xs = ys
  | [], [], _, _, _ => rfl
  | [], y :: ys, _, _, h => absurd ((h y).2 (by simp)) (by simp)
  | x :: xs, [], _, _, h => absurd ((h x).1 (by simp)) (by simp)
  | x :: xs, y :: ys, hx, hy, h => by
    rw [List.pairwise_cons] at hx hy
    have e : x = y := by
      have h1 := (h x).1 (by simp)
      have h2 := (h y).2 (by simp)
      rcases List.mem_cons.1 h1 with e | h1
      · exact e
      · rcases List.mem_cons.1 h2 with e | h2
        · exact e.symm
        · have := lexI_trans _ _ _ (hx.1 y h2) (hy.1 x h1)
          rw [lexI_irr] at this
          cases this
    subst e
    have hn1 : x ∉ xs := fun hm => by have := hx.1 x hm; rw [lexI_irr] at this; cases this
    have hn2 : x ∉ ys := fun hm => by have := hy.1 x hm; rw [lexI_irr] at this; cases this
    rw [pair_unique xs ys hx.2 hy.2 (fun m => by
      constructor
      · intro hm
        rcases List.mem_cons.1 ((h m).1 (by simp [hm])) with e | h'
        · subst e; exact absurd hm hn1
        · exact h'
      · intro hm
        rcases List.mem_cons.1 ((h m).2 (by simp [hm])) with e | h'
        · subst e; exact absurd hm hn2
        · exact h')]
theorem rise_unique {xs ys : List (List Int)} (hx : Rise xs) (hy : Rise ys) (h : ∀ m, m ∈ xs ↔ m ∈ ys) : xs = ys := pair_unique xs ys (pair_rise hx) (pair_rise hy) h
theorem mk_blk {w : World} {B : Nat} {ms : List (List Int)} (h : Blk w B 24 (flatR markL ms)) (hok : ∀ m ∈ ms, MarkOk m) (hm : ms.length ≤ maxLen) : MkSl w (.slice (some ⟨B, 0, none⟩) ms.length ms.length) ms :=
  mk_of_rows (RowsSl.of_blk h rfl hm (fun i hi j hj => by
    have hmi := hok (ms[i]?.getD (List.replicate 16 0)) (by rw [List.getElem?_eq_getElem hi]; exact List.getElem_mem hi)
    exact flatR_get ms i j (fun q hq => by rw [markL_length, (hok q hq).len]) hi (by rw [markL_length, hmi.len] at hj; exact hj))) hok
theorem wpList_valG {P : Program} {ops : Array Oper} {rest : List Oper} {o : Oper} {a : Act} {w : World} {Q : Exit → Act → World → Prop} (hw : Region.wanted o (yielded ops a.tmps) = true) (v : Value) (w' : World) (h1 : (execOp a.eval o).run P w = .ok (.value v) w')
    (h : wpList P ops Q rest (a.put o.dst v) w') : wpList P ops Q (o :: rest) a w :=
  wpList_step fun K hK => by
    rw [if_pos hw]
    unfold Oper.wp
    rw [h1]
    exact hK _ _ h
def mN (k : Int) : List Int := [k, 0, 0, 0, 0, 0, 0, 0, 0, 0, 0, 0, 0, 0, 0, 0]
theorem mN_ok {k : Int} (h : 0 ≤ k ∧ k < 256) : MarkOk (mN k) := ⟨rfl, IsBytes.of fun z hz => by
  simp only [mN, List.mem_cons, List.not_mem_nil, or_false] at hz
  rcases hz with rfl | rfl | rfl | rfl | rfl | rfl | rfl | rfl | rfl | rfl | rfl | rfl | rfl | rfl | rfl | rfl <;> omega⟩
theorem bN1 (w : World) : (Instr.build 24 #[(0, .int .u8 1)]).run Try.prog w = .ok (markV (mN 1)) w := run_build w _ _ _ (by kernel_rfl)
theorem bN2 (w : World) : (Instr.build 24 #[(0, .int .u8 2)]).run Try.prog w = .ok (markV (mN 2)) w := run_build w _ _ _ (by kernel_rfl)
theorem bN3 (w : World) : (Instr.build 24 #[(0, .int .u8 3)]).run Try.prog w = .ok (markV (mN 3)) w := run_build w _ _ _ (by kernel_rfl)
theorem f_a {out : List (List Int)} (hr : Rise out) (h : ∀ m, m ∈ out ↔ m ∈ [mN 2, mN 1, mN 2]) : out = [mN 1, mN 2] := rise_unique hr (rise_of (by decide)) fun m => by
  rw [h]
  simp only [List.mem_cons, List.not_mem_nil, or_false]
  constructor
  · rintro (h | h | h)
    · exact .inr h
    · exact .inl h
    · exact .inr h
  · rintro (h | h)
    · exact .inr (.inl h)
    · exact .inl h
theorem f_b {out : List (List Int)} (hr : Rise out) (h : ∀ m, m ∈ out ↔ m ∈ [mN 3, mN 2]) : out = [mN 2, mN 3] := rise_unique hr (rise_of (by decide)) fun m => by
  rw [h]
  simp only [List.mem_cons, List.not_mem_nil, or_false]
  exact Or.comm
theorem f_u : thoseT true true true [mN 1, mN 2] [mN 2, mN 3] = [mN 1, mN 2, mN 3] := by decide
theorem f_m : thoseT true false false [mN 1, mN 2] [mN 2, mN 3] = [mN 1] := by decide
theorem f_i : thoseT false false true [mN 1, mN 2] [mN 2, mN 3] = [mN 2] := by decide
theorem f_f : foldM [mN 1, mN 2] = mN 3 := by decide
theorem f_r : rightB [mN 1, mN 2] = true := by decide
theorem f_n : readN (bytesM [mN 1, mN 2]) 0 4096 = (2, [mN 1, mN 2].flatten, 0) := by decide
theorem f_g : getM (bytesM [mN 1, mN 2]) 0 = ([mN 1, mN 2], [], 0) := by
  unfold getM
  rw [f_n]
  decide
theorem f_c : cmpM (mN 1) (mN 2) = -1 := by decide

end Go.Proofs.Ytijlmfmpfjjlpaa
