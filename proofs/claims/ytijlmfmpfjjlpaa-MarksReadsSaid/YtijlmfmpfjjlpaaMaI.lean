/-
  Layer 9: Of: a list's set. Conditions: marks of 16 bytes; at most 100,000.
-/
import Derived.Test.YtijlmfmpfjjlpaaMaH
namespace Go.Proofs.Ytijlmfmpfjjlpaa
open Go.RowKit Go.Shelf Go.Sort Go.Lib
attribute [local go_sem] Oper.semAt_some

set_option maxHeartbeats 800000 in
theorem mclone_own (v : Value) (ms : List (List Int)) (w : World) (h : MkSl w v ms) (hbig : ms.length ≤ 100000) :
    Calls Try.prog 36 #[v] w fun e w' => ∃ v', e = .returned v' ∧ w'.ownsRow w.heap.size 24 16 v' ms.length (flatR markL ms) ∧ Kp Nb w w' := by
  have q22 : ∀ (w : World) (a : Option Addr) (n c n' c' : Nat), (binOp .eql 22 (.slice a n c) (.slice none n' c')).run Try.prog w = .ok (.bool a.isNone) w := fun w a n c n' c' => Lib.run_eql_slice_nil w _ _ a n c n' c' Try.underlying22
  have HO := hid h.1
  have HR := hid (mk_rows h)
  have HLN := hid (mk_len h.1)
  obtain ⟨y, d, rfl⟩ := h.shape
  obtain ⟨n, hn⟩ : ∃ n, ms.length = n := ⟨_, rfl⟩
  rw [hn] at HR hbig ⊢
  have HN := hid hn
  have HB := hid hbig
  clear hn h
  cases y with
  | none =>
    have h0 : ms = [] := by
      rcases HR.out with ⟨-, h0⟩ | ⟨blk, off, cap, e, -⟩
      · exact h0
      · injection e with e; cases e
    subst h0
    go_enter Try.func36, Try.ntmps36
    go_wp2
    go_ret
    exact ⟨_, rfl, ⟨by rw [← HN.out]; rfl, .inl ⟨rfl, by rw [← HN.out]; rfl⟩⟩, Kp.refl _ _⟩
  | some a =>
    obtain ⟨i0, z, hi, hz0, hz1, hz2, hz3⟩ := mark_info3L
    have FR : Hid (RowsSl markL (List.replicate 16 0) 16 (w.alloc (.cells #[] 24 (0, 0))) (.slice (some a) n d) ms) := hid (HR.out.kept ((Kp.refl Nb w).alloc _))
    have FL : Hid (∀ q ∈ ms, (markL q).length = 16) := hid (fun q hq => by rw [markL_length]; exact HLN.out q hq)
    have LL : Hid (0 + ms.length ≤ maxLen ∧ (0 + ms.length) * 16 ≤ 140737488355328) := hid (by rw [HN.out]; unfold maxLen; omega)
    clear HR
    go_enter Try.func36, Try.ntmps36
    go_wp2_with (at_builtin; refine wpList_append_rows (f := markL) (z := List.replicate 16 0) (c := 16) rfl _ _ 22 rfl w.heap.size 24 i0 z 16 Try.underlying22 hi hz0 hz1 hz2 hz3 (by decide) _ 0 [] rfl (World.ownsRow_made w #[] 0 (Nat.le_refl _) (Nat.zero_le _) rfl) _ ms rfl FR.out FL.out (fun q _ => markL_one' q) LL.out.1 LL.out.2 ((Kp.refl Nb w).alloc _).size ?_)
    intro v9 w9 hown hgrow
    have hk := hid (((Kp.refl Nb w).alloc (.cells #[] 24)).grown hgrow (fun k hk h => by simp [Value.ownBlock] at hk; omega))
    have HO9 : Hid (w9.ownsRow w.heap.size 24 16 v9 ms.length (flatR markL ms)) := hid (by simpa only [Nat.zero_add, List.nil_append] using hown)
    obtain ⟨y9, c9, rfl⟩ := own_shape HO9.out
    clear hown hgrow
    go_wp2
    go_ret
    exact ⟨_, rfl, by rw [← HN.out]; exact HO9.out, hk.out⟩

/-- A row of D's marks in a block, or none. -/
def HoldsOr (w : World) (v : Value) (D : Array MkT) : Prop := (v = .slice none 0 0 ∧ D.size = 0) ∨ ∃ g cap, v = .slice (some ⟨g, 0, none⟩) D.size cap ∧ HoldsK encM 16 w g 0 D ∧ g < w.heap.size ∧ D.size ≤ cap ∧ cap ≤ maxLen
def Jn (v : Value) : Nat → Prop := fun b => v.ownBlock = some b
def Sorted (D : Array MkT) : Prop := ∀ i j, i < j → j < D.size → lexI (D[j]!).1 (D[i]!).1 = false
theorem sortD_mem (d : Array MkT) (x : MkT) : x ∈ (sortD d).toList ↔ x ∈ d.toList := by
  unfold sortD
  simp [List.mem_mergeSort]
theorem sortD_sorted (d : Array MkT) : Sorted (sortD d) := by
  have h : (sortD d).toList.Pairwise fun x y => (!(ltOf cfM) y x) = true := by
    unfold sortD
    refine List.pairwise_mergeSort (fun x y z h1 h2 => ?_) (fun x y => ?_) _
    · simp only [Bool.not_eq_true'] at *
      exact swoM.ntrans _ _ _ h2 h1
    · cases hxy : ltOf cfM y x with
      | false => rfl
      | true =>
        cases hyx : ltOf cfM x y with
        | false => rfl
        | true => have := swoM.trans _ _ _ hxy hyx; rw [swoM.irrefl] at this; cases this
  intro i j hij hj
  have h2 := List.pairwise_iff_getElem.1 h i j (by simp; omega) (by simpa using hj) hij
  rw [Array.getElem_toList, Array.getElem_toList, ← getElem!_pos (sortD d) i (by omega), ← getElem!_pos (sortD d) j hj, Bool.not_eq_true', ltM] at h2
  exact h2
theorem comp_mem (D : Array MkT) (m : Nat) (x : MkT) : x ∈ compactUpTo D m ↔ ∃ j, j < m ∧ D[j]! = x := by
  constructor
  · intro h
    unfold compactUpTo at h
    obtain ⟨j, hj, rfl⟩ := List.mem_map.1 h
    exact ⟨j, List.mem_range.1 (List.mem_filter.1 hj).1, rfl⟩
  · rintro ⟨j, hj, rfl⟩
    induction j with
    | zero => exact List.mem_map.2 ⟨0, List.mem_filter.2 ⟨List.mem_range.2 hj, by simp [keeps]⟩, rfl⟩
    | succ j ih =>
      by_cases e : D[j + 1]! = D[j]!
      · rw [e]; exact ih (by omega)
      · exact List.mem_map.2 ⟨j + 1, List.mem_filter.2 ⟨List.mem_range.2 hj, keeps_pos (by simpa using e)⟩, rfl⟩
theorem comp_pair (D : Array MkT) (h : Sorted D) : (compactUpTo D D.size).Pairwise fun x y => lexI x.1 y.1 = true := by
  unfold compactUpTo
  rw [List.pairwise_map]
  refine List.Pairwise.imp_of_mem (R := fun a b : Nat => a < b) (fun {i j} hi hj hij => ?_) ((List.pairwise_lt_range).filter _)
  have hjs : j < D.size := List.mem_range.1 (List.mem_filter.1 hj).1
  have hk : keeps D j = true := (List.mem_filter.1 hj).2
  have hne : D[j]! ≠ D[j - 1]! := by
    unfold keeps at hk
    have := of_decide_eq_true hk
    rcases this with h | h
    · omega
    · exact h
  have h1 := h (j - 1) j (by omega) hjs
  have h2 : lexI (D[j - 1]!).1 (D[j]!).1 = true := by
    cases e : lexI (D[j - 1]!).1 (D[j]!).1 with
    | true => rfl
    | false => exact absurd (Subtype.ext (lexI_tri _ _ h1 e)) hne
  by_cases e : i = j - 1
  · rw [e]; exact h2
  · have h3 := h i (j - 1) (by omega) (by omega)
    cases e2 : lexI (D[i]!).1 (D[j]!).1 with
    | true => rfl
    | false =>
      cases e3 : lexI (D[i]!).1 (D[j - 1]!).1 with
      | true => have := lexI_trans _ _ _ e3 h2; rw [e2] at this; cases this
      | false =>
        have e4 := lexI_tri _ _ e3 h3
        rw [← e4, e2] at h2
        cases h2
def compM (D : Array MkT) : List (List Int) := (compactUpTo D D.size).map (·.1)
theorem rise_pair {ms : List (List Int)} (h : ms.Pairwise fun x y => lexI x y = true) : Rise ms := fun i j hij hj => by
  have h2 := List.pairwise_iff_getElem.1 h i j (by omega) hj hij
  unfold markAt
  rw [List.getElem?_eq_getElem hj, List.getElem?_eq_getElem (show i < ms.length from by omega)]
  exact h2
theorem compM_rise (D : Array MkT) (h : Sorted D) : Rise (compM D) := rise_pair (by unfold compM; rw [List.pairwise_map]; exact comp_pair D h)
theorem compM_mem (D : Array MkT) (m : List Int) : m ∈ compM D ↔ m ∈ D.toList.map (·.1) := by
  unfold compM
  constructor
  · intro h
    obtain ⟨x, hx, rfl⟩ := List.mem_map.1 h
    obtain ⟨j, hj, rfl⟩ := (comp_mem D D.size x).1 hx
    rw [getElem!_pos D j hj]
    exact List.mem_map.2 ⟨_, by simp, rfl⟩
  · intro h
    obtain ⟨x, hx, rfl⟩ := List.mem_map.1 h
    obtain ⟨j, hj, e⟩ := List.mem_iff_getElem.1 hx
    refine List.mem_map.2 ⟨x, (comp_mem D D.size x).2 ⟨j, by simpa using hj, ?_⟩, rfl⟩
    rw [getElem!_pos D j (by simpa using hj), ← e, Array.getElem_toList]
theorem compM_len (D : Array MkT) : (compM D).length ≤ D.size := by
  unfold compM compactUpTo
  rw [List.length_map, List.length_map]
  exact Nat.le_trans (List.length_filter_le _ _) (by simp)
theorem sort_own (base n : Nat) (v : Value) (ms : List (List Int)) (w : World) (own : w.ownsRow base 24 16 v n (flatR markL ms)) (hn : ms.length = n) (hok : ∀ m ∈ ms, MarkOk m) (hbig : n ≤ 100000) :
    Calls Try.prog 37 #[v, .func (.func 9) #[] #[]] w fun e w' => e = .returned (.tuple #[]) ∧ HoldsOr w' v (sortD (dM ms hok)) ∧ Kp (Jn v) w w' := by
  rcases own.2 with ⟨rfl, h0⟩ | ⟨g, cap, cur, rfl, hb, hh, hc, hm, hs, ht⟩
  · refine (sort_none 0 w).mono ?_
    rintro e w' ⟨rfl, rfl⟩
    exact ⟨rfl, .inl ⟨rfl, by rw [sortD_size, dM_size, hn, h0]⟩, Kp.refl _ _⟩
  · obtain ⟨hH, hbg, hg, hnc, hcm⟩ := holds_own own hn hok
    have h := sort_some g cap (dM ms hok) w hH hg (by rw [dM_size, hn]; omega)
    rw [dM_size, hn] at h
    refine h.mono ?_
    rintro e w' ⟨rfl, h1, h2⟩
    refine ⟨rfl, .inr ⟨g, cap, by rw [sortD_size, dM_size, hn], h1, Nat.lt_of_lt_of_le hg h2.size, by rw [sortD_size, dM_size, hn]; exact hnc, hcm⟩, ⟨h2.os, h2.tape, h2.output, h2.size, fun i hi hn => h2.block i hi (fun e => hn (by rw [show i = g from e]; rfl))⟩⟩
set_option maxHeartbeats 1000000 in
theorem compact_none (w : World) : Calls Try.prog 38 #[.slice none 0 0] w fun e w' => e = .returned (.slice none 0 0) ∧ w' = w := by
  go_enter Try.func38, Try.ntmps38
  go_wp2
  go_ret
  exact ⟨rfl, rfl⟩
theorem compact_own (v : Value) (D : Array MkT) (w : World) (h : HoldsOr w v D) (hbig : D.size ≤ 100000) :
    Calls Try.prog 38 #[v] w fun e w' => ∃ v', e = .returned v' ∧ MkSl w' v' (compM D) ∧ v'.ownBlock = v.ownBlock ∧ Kp (Jn v) w w' := by
  rcases h with ⟨rfl, h0⟩ | ⟨g, cap, rfl, hH, hg, hc, hm⟩
  · refine (compact_none w).mono ?_
    rintro e w' ⟨rfl, rfl⟩
    have e : compM D = [] := List.length_eq_zero_iff.1 (by have := compM_len D; omega)
    rw [e]
    exact ⟨_, rfl, ⟨fun i => by unfold markAt; exact zero_ok, .inl ⟨⟨_, _, rfl⟩, rfl⟩⟩, rfl, Kp.refl _ _⟩
  · refine (compact_some g 0 cap D w hH hg hc hbig).mono ?_
    rintro e w' ⟨rfl, h1, h2⟩
    have hok : ∀ i, MarkOk (markAt (compM D) i) := fun i => by
      unfold markAt compM
      rw [List.getElem?_map]
      cases (compactUpTo D D.size)[i]? with
      | none => exact zero_ok
      | some m => exact m.2
    have hl : (compactUpTo D D.size).length = (compM D).length := by unfold compM; rw [List.length_map]
    refine ⟨_, rfl, ⟨hok, .inr ⟨g, 0, cap, by rw [hl], Nat.le_trans (compM_len D) hc, hm, fun i hi => ?_⟩⟩, rfl, ⟨h2.os, h2.tape, h2.output, h2.size, fun i hi hn => h2.block i hi (fun e => hn (by rw [show i = g from e]; rfl))⟩⟩
    have hi' : i < (compactUpTo D D.size).length := by rw [hl]; exact hi
    have e : markAt (compM D) i = ((compactUpTo D D.size)[i]).1 := by
      unfold markAt compM
      rw [List.getElem?_map, List.getElem?_eq_getElem hi']
      rfl
    rw [e]
    exact h1 i _ (List.getElem?_eq_getElem hi')
set_option maxHeartbeats 1000000 in
theorem mof_any (v : Value) (ms : List (List Int)) (w : World) (h : MkSl w v ms) (hbig : ms.length ≤ 100000) :
    Calls Try.prog 14 #[v] w fun e w' => ∃ v' out, e = .returned v' ∧ MkSl w' v' out ∧ Rise out ∧ (∀ m, m ∈ out ↔ m ∈ ms) ∧ out.length ≤ ms.length ∧ OwnV w v' w' ∧ Kp Nb w w' := by
  have CC := hid (mclone_own v ms w h hbig)
  have HOK : Hid (∀ m ∈ ms, MarkOk m) := hid h.ok
  have HS : Hid (∀ v1 w1, w1.ownsRow w.heap.size 24 16 v1 ms.length (flatR markL ms) → Calls Try.prog 37 #[v1, .func (.func 9) #[] #[]] w1 fun e w' => e = .returned (.tuple #[]) ∧ HoldsOr w' v1 (sortD (dM ms HOK.out)) ∧ Kp (Jn v1) w1 w') := hid (fun v1 w1 own => sort_own _ _ v1 ms w1 own rfl HOK.out hbig)
  obtain ⟨D, hD⟩ : ∃ D, sortD (dM ms HOK.out) = D := ⟨_, rfl⟩
  rw [hD] at HS
  have HC : Hid (∀ v1 w1, HoldsOr w1 v1 D → Calls Try.prog 38 #[v1] w1 fun e w' => ∃ v', e = .returned v' ∧ MkSl w' v' (compM D) ∧ v'.ownBlock = v1.ownBlock ∧ Kp (Jn v1) w1 w') := hid (fun v1 w1 hh => compact_own v1 D w1 hh (by rw [← hD, sortD_size, dM_size]; exact hbig))
  have HR : Hid (Rise (compM D) ∧ (∀ m, m ∈ compM D ↔ m ∈ ms) ∧ (compM D).length ≤ ms.length) := hid (by
    refine ⟨compM_rise D (by rw [← hD]; exact sortD_sorted _), fun m => ?_, ?_⟩
    · rw [compM_mem, ← hD]
      constructor
      · intro hm
        obtain ⟨x, hx, rfl⟩ := List.mem_map.1 hm
        have h2 : x.1 ∈ (dM ms HOK.out).toList.map (·.1) := List.mem_map.2 ⟨x, (sortD_mem _ x).1 hx, rfl⟩
        rwa [dM_val] at h2
      · intro hm
        rw [← dM_val ms HOK.out] at hm
        obtain ⟨x, hx, rfl⟩ := List.mem_map.1 hm
        exact List.mem_map.2 ⟨x, (sortD_mem _ x).2 hx, rfl⟩
    · have := compM_len D
      rwa [← hD, sortD_size, dM_size, hD] at this)
  have HSH := h.shape
  clear hD h hbig
  obtain ⟨y, d, rfl⟩ := HSH
  obtain ⟨n, hn⟩ : ∃ n, ms.length = n := ⟨_, rfl⟩
  have HN := hid hn
  rw [hn] at CC ⊢
  clear hn
  go_enter Try.func14, Try.ntmps14
  go_wp2_with (first
    | (go_at_call 36; refine CC.out.mono ?_; rintro r w1 ⟨v1, rfl, own, k1⟩; have OWN := hid own; have K1 := hid k1; clear own k1; obtain ⟨p1, q1, hv1⟩ := own_shape OWN.out; subst hv1)
    | (go_at_call 37; refine (HS.out _ _ (by rw [HN.out]; exact OWN.out)).mono ?_; rintro r w2 ⟨rfl, hh, k2⟩; have HH2 := hid hh; have K2 := hid k2; clear hh k2)
    | (go_at_call 38; refine (HC.out _ _ HH2.out).mono ?_; rintro r w3 ⟨v3, rfl, h3, h4, k3⟩; have M3 := hid h3; have O3 := hid h4; have K3 := hid k3; clear h3 h4 k3; obtain ⟨p3, q3, hv3⟩ := M3.out.shape; subst hv3))
  go_ret
  have far : ∀ b, Jn (.slice p1 n q1) b → ¬ b < w.heap.size := fun b hb => by have := (row_cells OWN.out hb).1; omega
  refine ⟨_, _, rfl, M3.out, HR.out.1, HR.out.2.1, by rw [← HN.out]; exact HR.out.2.2, ?_, ?_⟩
  · intro g hg
    have hg := O3.out.symm.trans hg
    obtain ⟨h1, o, ho, -⟩ := row_cells OWN.out hg
    exact ⟨h1, Nat.lt_of_lt_of_le (Nat.lt_of_lt_of_le (Array.getElem?_eq_some_iff.1 ho).1 K2.out.size) K3.out.size⟩
  · refine (K1.out.trans (S' := Jn (.slice p1 n q1)) K2.out (fun i hi h => absurd hi (far i h))).trans (S' := Jn (.slice p1 n q1)) K3.out (fun i hi h => absurd hi (far i h))

end Go.Proofs.Ytijlmfmpfjjlpaa
