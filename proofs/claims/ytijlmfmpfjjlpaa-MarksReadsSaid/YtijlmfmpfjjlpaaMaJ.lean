/-
  Layer 9: Same. Conditions: marks of 16 bytes; at most 100,000 a list.
-/
import Derived.Test.YtijlmfmpfjjlpaaMaI
namespace Go.Proofs.Ytijlmfmpfjjlpaa
open Go.RowKit Go.Shelf Go.Sort Go.Lib
attribute [local go_sem] Oper.semAt_some

theorem dM_inj {xs ys : List (List Int)} (h1 : ∀ m ∈ xs, MarkOk m) (h2 : ∀ m ∈ ys, MarkOk m) : (dM xs h1).toList = (dM ys h2).toList ↔ xs = ys := by
  constructor
  · intro h
    have := congrArg (List.map (·.1)) h
    rwa [dM_val, dM_val] at this
  · rintro rfl; rfl
theorem neqM : NeqAt Try.prog 24 (fun x : MkT => .agg (encM x).toArray) (fun x y => decide (x = y)) := by
  constructor
  · intro x y w
    have h := mark_eqR x.2 y.2 w
    have e : decide (x = y) = decide (x.1 = y.1) := by
      by_cases h : x = y
      · subst h; simp
      · have : ¬ x.1 = y.1 := fun e => h (Subtype.ext e)
        simp [h, this]
    dsimp only
    rw [e]
    show Sem.run Try.prog (do pure (Value.bool (!(← Op.equal 24 (markV x.1) (markV y.1))))) w = _
    simp only [Sem.run_bind, Sem.run_pure, Result.andThen_ok, h]
  · intro op a b x y w
    obtain ⟨xs, hxs⟩ : ∃ xs : Array Value, (encM x).toArray = xs := ⟨_, rfl⟩
    obtain ⟨ys, hys⟩ : ∃ ys : Array Value, (encM y).toArray = ys := ⟨_, rfl⟩
    dsimp only
    rw [hxs, hys]
    go_simp
theorem holds_cells {w : World} {g off : Nat} {ms : List (List Int)} (hok : ∀ m ∈ ms, MarkOk m) (h : ∀ i, i < ms.length → w.rangeAt g (off + i * 16) (markL (markAt ms i))) : ∀ j, j < (dM ms hok).toList.length → ∀ i v, (encM (dM ms hok).toList[j]!)[i]? = some v → w.cell? ⟨g, off + j * 16 + i, none⟩ = some v := fun j hj i v hv => by
  have hj' : j < ms.length := by rw [Array.length_toList, dM_size] at hj; exact hj
  refine h j hj' i v ?_
  rw [← hv]
  unfold encM
  have e : (dM ms hok).toList[j]! = (dM ms hok)[j]! := by
    rw [getElem!_pos (dM ms hok).toList j hj, getElem!_pos (dM ms hok) j (by rw [dM_size]; exact hj'), Array.getElem_toList]
  rw [e, dM_get ms hok j hj']
set_option maxHeartbeats 1000000 in
theorem mequal_any (va vb : Value) (xs ys : List (List Int)) (w : World) (ha : MkSl w va xs) (hb : MkSl w vb ys) (hx : xs.length ≤ 100000) (hy : ys.length ≤ 100000) :
    Calls Try.prog 41 #[va, vb] w fun e w' => e = .returned (.bool (decide (xs = ys))) ∧ Kp Nb w w' := by
  by_cases hl : xs.length = ys.length
  · by_cases h0 : xs.length = 0
    · have e1 : xs = [] := List.length_eq_zero_iff.1 h0
      have e2 : ys = [] := List.length_eq_zero_iff.1 (by omega)
      subst e1 e2
      obtain ⟨pa, da, rfl⟩ := ha.shape
      obtain ⟨pb, db, rfl⟩ := hb.shape
      clear ha hb hx hy hl h0
      simp only [List.length_nil]
      go_enter Try.func41, Try.ntmps41
      go_wp2
      go_loopw [13] (fun i wr => i = .int .i64 0 ∧ wr = w) (fun _ _ => 0)
      case atStart => exact ⟨rfl, rfl⟩
      case round =>
        obtain ⟨rfl, rfl⟩ := hrel
        go_wp2
        go_ret
        exact ⟨by simp, Kp.refl _ _⟩
    · obtain ⟨g, o1, c1, rfl, hc1, _, hcell1⟩ := mk_shape ha (by intro e; rw [e] at h0; exact h0 rfl)
      obtain ⟨g2, o2, c2, rfl, hc2, _, hcell2⟩ := mk_shape hb (by intro e; rw [e] at hl; exact h0 hl)
      have l1 : (dM xs ha.ok).toList.length = xs.length := by simp [dM_size]
      have l2 : (dM ys hb.ok).toList.length = ys.length := by simp [dM_size]
      have h := AnyQ.slices_Equal (P := Try.prog) Try.equalMk 16 (fun w => Try.isAgg24 w) (fun w => Try.sizeOf24 w) encM encM_len (fun x y => decide (x = y)) neqM g o1 xs.length c1 g2 o2 ys.length c2 (dM xs ha.ok).toList (dM ys hb.ok).toList w
        (Nat.le_of_eq l1.symm) (Nat.le_of_eq l2.symm) (by omega) (by omega) (holds_cells ha.ok fun i hi => (hcell1 i hi).2) (holds_cells hb.ok fun i hi => (hcell2 i hi).2)
      refine Calls.mono h ?_
      rintro e w' ⟨rfl, q, rfl⟩
      refine ⟨?_, ⟨rfl, rfl, rfl, Nat.le_refl _, fun _ _ _ => rfl⟩⟩
      congr 2
      rw [List.take_of_length_le (Nat.le_of_eq l1), List.take_of_length_le (Nat.le_of_eq l2)]
      have e : ∀ (a b : List MkT), Lib.allEq (fun x y => decide (x = y)) a b = decide (a = b) := fun a => by
        induction a with
        | nil => intro b; cases b <;> simp [Lib.allEq]
        | cons x a ih => intro b; cases b with
          | nil => simp [Lib.allEq]
          | cons y b => simp [Lib.allEq, ih]
      rw [e]
      by_cases h : xs = ys
      · rw [decide_eq_true h, decide_eq_true ((dM_inj ha.ok hb.ok).2 h)]
      · rw [decide_eq_false h, decide_eq_false (fun e => h ((dM_inj ha.ok hb.ok).1 e))]
  · have hne : decide (xs = ys) = false := decide_eq_false (fun e => hl (by rw [e]))
    rw [hne]
    obtain ⟨pa, da, rfl⟩ := ha.shape
    obtain ⟨pb, db, rfl⟩ := hb.shape
    obtain ⟨nA, hnA⟩ : ∃ n, xs.length = n := ⟨_, rfl⟩
    obtain ⟨nB, hnB⟩ : ∃ n, ys.length = n := ⟨_, rfl⟩
    rw [hnA, hnB] at hl ⊢
    have hl' : ¬ (nA : Int) = (nB : Int) := by omega
    clear ha hb hx hy hne hnA hnB hl
    go_enter Try.func41, Try.ntmps41
    go_wp2
    go_ret
    exact ⟨rfl, Kp.refl _ _⟩
set_option maxHeartbeats 1000000 in
theorem msame_any (va vb : Value) (xs ys : List (List Int)) (w : World) (ha : MkSl w va xs) (hb : MkSl w vb ys) (hx : xs.length ≤ 100000) (hy : ys.length ≤ 100000) :
    Calls Try.prog 24 #[va, vb] w fun e w' => e = .returned (.bool (decide (xs = ys))) ∧ Kp Nb w w' := by
  have CC := hid (mequal_any va vb xs ys w ha hb hx hy)
  obtain ⟨b, hb'⟩ : ∃ b, decide (xs = ys) = b := ⟨_, rfl⟩
  rw [hb'] at CC ⊢
  have HS := ha.shape
  have HS2 := hb.shape
  clear ha hb hx hy hb'
  obtain ⟨pa, da, rfl⟩ := HS
  obtain ⟨pb, db, rfl⟩ := HS2
  go_enter Try.func24, Try.ntmps24
  go_wp2_with (go_at_call 41; refine CC.out.mono ?_; rintro r w1 ⟨rfl, k1⟩; have K1 := hid k1; clear k1)
  go_ret
  exact ⟨rfl, K1.out⟩

end Go.Proofs.Ytijlmfmpfjjlpaa
