/-
  Layer 9: ref09.Pick, whatever the two lists. Conditions: marks of 16 bytes; at most 10,000 a list.
-/
import Derived.Test.YtijlmfmpfjjlpaaMbA
import Derived.Test.YtijlmfmpfjjlpaaMaQ
namespace Go.Proofs.Ytijlmfmpfjjlpaa
open Go.RowKit Go.Shelf

set_option maxRecDepth 100000 in
set_option maxHeartbeats 1000000 in
theorem rpick0_any (va vb : Value) (a b : List (List Int)) (one two both : Bool) (w : World) (ha : MkSl w va a) (hb : MkSl w vb b) (hr : (rightB a && rightB b) = false) (la : a.length ≤ 10000) (lb : b.length ≤ 10000) :
    Calls Try.prog 19 #[va, vb, .bool one, .bool two, .bool both] w fun e w' => e = .returned (.slice none 0 0) ∧ Kp Nb w w' := by
  have CA := hid (rset_any va a w ha (by omega))
  have CB : Hid (∀ wx, Kp Nb w wx → Calls Try.prog 12 #[vb] wx fun e w' => e = .returned (.bool (rightB b)) ∧ Kp Nb wx w') := hid (fun wx k => rset_any vb b wx (hb.kept k) (by omega))
  clear ha hb la lb
  cases hra : rightB a with
  | false =>
    rw [hra] at CA
    clear hr hra
    go_enter Try.func19, Try.ntmps19
    go_wp2_with fail
    refine CA.out.mono ?_
    rintro r w1 ⟨rfl, k1⟩
    go_wp2
    go_ret
    exact ⟨rfl, k1⟩
  | true =>
    rw [hra] at CA
    rw [hra, Bool.true_and] at hr
    rw [hr] at CB
    clear hr hra
    go_enter Try.func19, Try.ntmps19
    go_wp2_with fail
    refine CA.out.mono ?_
    rintro r w1 ⟨rfl, k1⟩
    go_wp2_with fail
    refine (CB.out w1 k1).mono ?_
    rintro r w2 ⟨rfl, k2⟩
    go_wp2
    go_ret
    exact ⟨rfl, k1.trans k2 (fun _ _ h => h)⟩
theorem rpick2_any (va vb : Value) (a b : List (List Int)) (one two both : Bool) (w : World) (ha : MkSl w va a) (hb : MkSl w vb b) (la : a.length ≤ 10000) (lb : b.length ≤ 10000) :
    Calls Try.prog 19 #[va, vb, .bool one, .bool two, .bool both] w fun e w' => ∃ v', e = .returned v' ∧ MkSl w' v' (thoseT one two both a b) ∧ Kp Nb w w' := by
  cases hr : rightB a && rightB b with
  | false =>
    refine (rpick0_any va vb a b one two both w ha hb hr la lb).mono ?_
    rintro e w' ⟨rfl, k⟩
    refine ⟨_, rfl, ?_, k⟩
    unfold thoseT
    rw [hr]
    exact ⟨fun i => by unfold markAt; exact zero_ok, .inl ⟨⟨_, _, rfl⟩, rfl⟩⟩
  | true =>
    rw [Bool.and_eq_true] at hr
    refine (rpick_any va vb a b one two both w ha hb hr.1 hr.2 la lb).mono ?_
    rintro e w' ⟨v', out, rfl, h1, h2, h3, -, k⟩
    have e1 : thoseT one two both a b = out := rise_unique (rise_of (those_rise _ _ _ _ _)) h2 fun m => by
      rw [those_mem hr.1 hr.2, h3]
      unfold pk1 pk2 mhasB
      by_cases h1 : m ∈ a <;> by_cases h2 : m ∈ b <;> simp [h1, h2]
    rw [e1]
    exact ⟨v', rfl, h1, k⟩
theorem those_len (fA fB fC : Bool) (xs ys : List (List Int)) : (thoseT fA fB fC xs ys).length ≤ xs.length + ys.length := by
  have hm : ∀ f (xs ys : List (List Int)), (mergeN f xs ys).length ≤ f := fun f => by
    induction f with
    | zero => intro xs ys; exact Nat.le_refl 0
    | succ f ih => intro xs ys; unfold mergeN; split
                   · exact Nat.zero_le _
                   · rw [List.length_cons]; exact Nat.succ_le_succ (ih _ _)
  unfold thoseT
  split
  · rw [List.length_map]
    exact Nat.le_trans (List.length_filter_le _ _) (hm _ _ _)
  · exact Nat.zero_le _

end Go.Proofs.Ytijlmfmpfjjlpaa
