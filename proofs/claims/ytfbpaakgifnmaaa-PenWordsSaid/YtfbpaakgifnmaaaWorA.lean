/-
  Layer 2: the numbers that stand in bytes, gone through (pen.Words). Condition: bytes no more than 2^40.
-/
import Derived.Test.YtfbpaakgifnmaaaPenB
import Derived.Test.YtfbpaakgifnmaaaColl
import Derived.RangeFuncNested
import Derived.RangeFuncBound
import Derived.RangeFuncCalls
import Derived.RangeFuncLeaves
import Derived.Shelf.Abstract
import Derived.Shelf.RegionOpen
import Derived.OwnWalkIn
import Derived.TacticsInMore
import Derived.LoopNIn
import Derived.LoopIn
namespace Go.Proofs.Ytfbpaakgifnmaaa
open Go.RowKit Go.Shelf
attribute [local go_sem] Oper.semAt_some

/-- Where the k-th number begins, if those ahead are numbers. -/
def offN (zs : List Int) : Nat → Nat
  | 0 => 0
  | k + 1 => offN zs k + (firstOf (zs.drop (offN zs k))).2.1
def okN (zs : List Int) (k : Nat) : Bool := decide ((firstOf (zs.drop (offN zs k))).2.2 = 0)
def wordAt (zs : List Int) (k : Nat) : Int × Int := ((offN zs k : Int), (firstOf (zs.drop (offN zs k))).1)
def wordsTo (zs : List Int) (k : Nat) : List (Int × Int) := (List.range k).map (wordAt zs)
/-- How many numbers. -/
def wordsN (zs : List Int) : Nat := ((List.range (zs.length + 1)).takeWhile (okN zs)).length
def wordsL (zs : List Int) : List (Int × Int) := wordsTo zs (wordsN zs)
theorem wordsTo_succ (zs : List Int) (k : Nat) : wordsTo zs (k + 1) = wordsTo zs k ++ [wordAt zs k] := by simp [wordsTo, List.range_succ]
theorem wordsTo_length (zs : List Int) (k : Nat) : (wordsTo zs k).length = k := by simp [wordsTo]
theorem wordsTo_take (zs : List Int) (k m : Nat) (h : k ≤ m) : wordsTo zs k = (wordsTo zs m).take k := by
  unfold wordsTo
  rw [← List.map_take, List.take_range, Nat.min_eq_left h]
theorem wordsTo_get (zs : List Int) (k i : Nat) (h : i < k) : (wordsTo zs k)[i]? = some (wordAt zs i) := by
  unfold wordsTo
  rw [List.getElem?_map, List.getElem?_range h]
  rfl
theorem okN_spec {zs : List Int} {k : Nat} (h : okN zs k = true) : (firstOf (zs.drop (offN zs k))).2.2 = 0 := by unfold okN at h; exact of_decide_eq_true h
theorem okN_not {zs : List Int} {k : Nat} (h : okN zs k = false) : (firstOf (zs.drop (offN zs k))).2.2 ≠ 0 := by unfold okN at h; exact of_decide_eq_false h
theorem off_step {zs : List Int} {k : Nat} (h : okN zs k = true) (hl : offN zs k ≤ zs.length) : offN zs k < offN zs (k + 1) ∧ offN zs (k + 1) ≤ zs.length := by
  have := firstOf_ok _ (okN_spec h)
  rw [List.length_drop] at this
  show offN zs k < offN zs k + _ ∧ offN zs k + _ ≤ _
  omega
theorem off_le {zs : List Int} : ∀ k, (∀ i, i < k → okN zs i = true) → k ≤ offN zs k ∧ offN zs k ≤ zs.length
  | 0, _ => ⟨Nat.le_refl _, Nat.zero_le _⟩
  | k + 1, h => by
    have h1 := off_le k (fun i hi => h i (by omega))
    have h2 := off_step (h k (by omega)) h1.2
    omega
theorem takeWhile_range (p : Nat → Bool) : ∀ (n k : Nat), k < ((List.range n).takeWhile p).length → p k = true
  | n, k, h => by
    have hm : ((List.range n).takeWhile p)[k]? = some ((List.range n).takeWhile p)[k] := List.getElem?_eq_getElem h
    have h1 : ((List.range n).takeWhile p)[k] ∈ (List.range n).takeWhile p := List.getElem_mem h
    have h2 := List.all_eq_true.1 (List.all_takeWhile (p := p) (l := List.range n)) _ h1
    have hpre : (List.range n).takeWhile p <+: List.range n := List.takeWhile_prefix p
    have h3 := hpre.getElem h
    rw [List.getElem_range] at h3
    rw [h3] at h2
    exact h2
theorem okN_lt {zs : List Int} {k : Nat} (h : k < wordsN zs) : okN zs k = true := takeWhile_range _ _ _ h
theorem wordsN_le (zs : List Int) : wordsN zs ≤ zs.length := by
  have := off_le (zs := zs) (wordsN zs) (fun i hi => okN_lt hi)
  omega
theorem takeWhile_stop (p : Nat → Bool) (n : Nat) (h : ((List.range n).takeWhile p).length < n) : p ((List.range n).takeWhile p).length = false := by
  have e := List.takeWhile_append_dropWhile (p := p) (l := List.range n)
  cases hd : (List.range n).dropWhile p with
  | nil =>
    rw [hd, List.append_nil] at e
    rw [e, List.length_range] at h
    omega
  | cons x xs =>
    have hx : p x = false := by
      have := List.head?_dropWhile_not p (List.range n)
      rw [hd] at this
      simpa using this
    rw [hd] at e
    have hg : (List.range n)[((List.range n).takeWhile p).length]? = some x := by
      have h9 : ((List.range n).takeWhile p ++ x :: xs)[((List.range n).takeWhile p).length]? = some x := by
        rw [List.getElem?_append_right (Nat.le_refl _), Nat.sub_self]
        rfl
      rw [e] at h9
      exact h9
    rw [List.getElem?_range h] at hg
    injection hg with hg
    rw [← hg] at hx
    exact hx
theorem okN_end (zs : List Int) : okN zs (wordsN zs) = false := by
  have := wordsN_le zs
  exact takeWhile_stop (okN zs) (zs.length + 1) (by unfold wordsN at this; omega)
theorem wordsN_le_of {zs : List Int} {k : Nat} (h : k ≤ wordsN zs) : k ≤ offN zs k ∧ offN zs k ≤ zs.length := off_le k (fun i hi => okN_lt (by omega))

theorem firstOf_err (zs : List Int) (h : (firstOf zs).2.2 ≠ 0) : (firstOf zs).2.2 = 10 ∨ (firstOf zs).2.2 = 11 := by
  unfold firstOf at h ⊢
  by_cases h1 : zs.length = 0
  · rw [if_pos h1]; exact .inl rfl
  · rw [if_neg h1] at h ⊢
    by_cases h2 : zs[0]?.getD 0 ≤ 247
    · rw [if_pos h2] at h; exact absurd rfl h
    · rw [if_neg h2] at h ⊢
      by_cases h3 : zs.length < 1 + (zs[0]?.getD 0 - 247).toNat
      · rw [if_pos h3]; exact .inl rfl
      · rw [if_neg h3] at h ⊢
        split at h
        · exact absurd rfl h
        · rw [if_neg (by assumption)]; exact .inr rfl
/-- The blocks that a list's value lies in. -/
def blksOf : Value → List Nat
  | .slice (some a) _ _ => [a.block]
  | _ => []
theorem BySl.keptL {S : Nat → Prop} {w w' : World} {v : Value} {zs : List Int} {Cs : List Nat} (h : BySl S w v zs) (k : KpL Cs w w') (hs : ∀ b ∈ blksOf v, b ∈ Cs) : BySl S w' v zs := by
  obtain ⟨hz, h⟩ := h
  refine ⟨hz, ?_⟩
  rcases h with h | ⟨blk, off, cap, rfl, hc, hm, hb, hn⟩
  · exact .inl h
  · exact .inr ⟨blk, off, cap, rfl, hc, hm, fun i hi => (k.cell (hs blk (by simp [blksOf])) _).trans (hb i hi), hn⟩

set_option maxRecDepth 100000 in
set_option maxHeartbeats 2000000 in
theorem words1_in (m : Nat) (hm : 1 ≤ m) (l Bb : Nat) (v : Value) (zs : List Int) (hbig : zs.length ≤ 1099511627776) (J Jx : List (Int × Int) → World → Prop)
    (hY : ∀ pre x W, J pre W → pre.length < wordsN zs → YieldAt Fence.wide (m - 1) Try.prog l #[.int .i64 x.1, .int .u64 x.2] W fun r W' =>
      (r = .returned (.bool true) ∧ J (pre ++ [x]) W' ∧ KpL (Bb :: blksOf v) W W') ∨ (r = .returned (.bool false) ∧ Jx (pre ++ [x]) W'))
    (W : World) (hE : W.cell? ⟨Bb, 0, none⟩ = some v) (hv : BySl Nb W v zs) (h0 : J [] W) :
    CallsIn Fence.wide m Try.prog 69 #[.func (.yield l) #[] #[], .pointer (some ⟨Bb, 0, none⟩)] W fun r W' => (∃ v, r = .returned v) ∧
      ((∃ ys, ys = wordsL zs ∧ J ys W') ∨ (∃ pre, (∃ k, k ≤ wordsN zs ∧ pre = wordsTo zs k) ∧ Jx pre W')) := by
  have HV0 := hid hv
  have HY := hid hY
  have HE := hid hE
  have HJ := hid h0
  have HB := hid hbig
  clear hv hY hE h0 hbig
  refine callsIn_of_wp Try.func69 rfl trivial ?_ rfl
  simp only [Try.ntmps69, List.size_toArray, List.length_cons, List.length_nil, Nat.reduceAdd, Nat.reduceSub, Array.replicate_succ, Array.replicate_zero, List.push_toArray, List.append_toArray, List.nil_append, List.cons_append]
  gi_wp2
  gi_loopw [3] (fun i wr => ∃ k : Nat, k ≤ wordsN zs ∧ i = .int .i64 (offN zs k) ∧ Hid (J (wordsTo zs k) wr) ∧ Hid (KpL (Bb :: blksOf v) W wr)) (fun i _ => zs.length + 1 - (intOf i).toNat)
  case atStart => exact ⟨0, Nat.zero_le _, rfl, HJ, fun _ _ => rfl⟩
  case round =>
    obtain ⟨k, hk, rfl, hJk, hK⟩ := hrel
    have cE := (hK.out.cell (b := Bb) (by simp) 0).trans HE.out
    have hb : BySl Nb wr v zs := HV0.out.keptL hK.out (fun b hb => List.mem_cons_of_mem _ hb)
    have ho := wordsN_le_of hk
    obtain ⟨x, c, hcut, hd⟩ := hb.cutL (offN zs k) ho.2
    have CF : Hid (∀ W, W = wr → Calls Try.prog 64 #[.slice x (zs.length - offN zs k) c] W fun e w' => e = .returned (firstVal (zs.drop (offN zs k))) ∧ W = w') := fun W h => by subst h; exact firstb_any _ _ _ hd
    have hoff : ((offN zs k : Nat) : Int) < 1099511627777 := by have := HB.out; omega
    obtain ⟨o, hoo⟩ : ∃ o, o = offN zs k := ⟨_, rfl⟩
    rw [← hoo] at hcut hoff CF ⊢
    have HO := hid hoo
    obtain ⟨fa, hfa⟩ : ∃ z, z = (firstOf (zs.drop o)).1 := ⟨_, rfl⟩
    obtain ⟨fs, hfs⟩ : ∃ z, z = (firstOf (zs.drop o)).2.1 := ⟨_, rfl⟩
    obtain ⟨fe, hfe⟩ : ∃ z, z = (firstOf (zs.drop o)).2.2 := ⟨_, rfl⟩
    have hval : firstVal (zs.drop o) = .tuple #[.int .u64 fa, .int .i64 fs, .int .i64 fe] := by rw [hfa, hfs, hfe]; rfl
    rw [hval] at CF
    cases hok : okN zs k with
    | false =>
      have hne := okN_not hok
      have hne' := hne
      rw [← hoo, ← hfe] at hne
      have hke : k = wordsN zs := by
        rcases Nat.lt_or_ge k (wordsN zs) with h | h
        · rw [okN_lt h] at hok; cases hok
        · omega
      subst hke
      have h2 := firstOf_err _ hne'
      rw [← hoo, ← hfe] at h2
      clear hoo hfa hfs hfe hval hok hne hne' hb hd hk ho
      rcases h2 with h2 | h2
      all_goals
        subst h2
        refine wpIn_wide.2 ?_
        go_wp2_with (go_at_call 64; refine (CF.out _ rfl).mono ?_; rintro r w' ⟨rfl, rfl⟩)
        refine bodyPost_ret (results_none rfl _ _ _) rfl ?_
        exact ⟨⟨_, rfl⟩, .inl ⟨_, rfl, hJk.out⟩⟩
    | true =>
      have hz := okN_spec hok
      have hst := off_step hok ho.2
      rw [← hoo] at hz hst
      obtain rfl : fe = 0 := by rw [hfe, hz]
      have hklt : k < wordsN zs := by
        rcases Nat.lt_or_ge k (wordsN zs) with h | h
        · exact h
        · obtain rfl : k = wordsN zs := by omega
          rw [okN_end] at hok
          cases hok
      have hoff1 : offN zs (k + 1) = o + fs := by show offN zs k + _ = _; rw [← hoo, hfs]
      rw [hoff1] at hst
      have hwa : wordAt zs k = ((o : Int), fa) := by unfold wordAt; rw [← hoo, ← hfa]
      have HT := hid ((wordsTo_succ zs k).trans (by rw [hwa]))
      have HK := hid hklt
      have HS := hid hst
      have HO1 := hid hoff1
      obtain ⟨fn, tmps, assign, body, hy, hR⟩ := HY.out _ ((o : Int), fa) wr hJk.out (by rw [wordsTo_length]; exact hklt)
      dsimp only at hy
      have HRR := hid hR
      have hsum : IntKind.i64.wrap ((o : Int) + (fs : Int)) = ((o + fs : Nat) : Int) := (IntWalk.i64_in _ (by have := HB.out; omega)).trans (by omega)
      clear hoo hfa hfs hfe hval hok hb hd hk ho hz hst hklt hwa hoff1 hR
      gi_wp2_with (refine ⟨trivial, ?_⟩; gi_at_call 64; refine (callsIn_wide.2 (CF.out _ rfl)).mono ?_; rintro r w' ⟨rfl, rfl⟩)
      refine HRR.out.mono ?_
      rintro r W3 (⟨rfl, hJ3, hK3⟩ | ⟨rfl, hJx3⟩)
      · have HJ3 := hid hJ3
        have HK3 := hid (kpL_t hK.out hK3)
        clear hJ3 hK3 hy cE hJk hK
        gi_wp2
        all_goals
          go_roundw
          case rel => exact ⟨k + 1, HK.out, by rw [HO1.out, Int.natCast_add], by rw [HT.out]; exact HJ3, HK3⟩
          case measure => have := HS.out; simp [intOf]; omega
      · gi_wp2
        refine bodyPost_ret (results_none rfl _ _ _) rfl ?_
        exact ⟨⟨_, rfl⟩, .inr ⟨_, ⟨k + 1, HK.out, rfl⟩, by rw [HT.out]; exact hJx3⟩⟩

end Go.Proofs.Ytfbpaakgifnmaaa
