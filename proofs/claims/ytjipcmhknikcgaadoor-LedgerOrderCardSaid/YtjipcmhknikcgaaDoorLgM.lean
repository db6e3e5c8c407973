/-
  Layer 22: Clone; what sums come to (plain). Conditions: rows of 64 bits.
-/
import Derived.Test.YtjipcmhknikcgaaDoorLgH
namespace Go.Proofs.YtjipcmhknikcgaaDoor
open Go.RowKit

theorem lg_load {w : World} {B : Nat} {rs : List RwQ} (h : LgAt w B rs) : (Instr.loadAt 57 (.pointer (some ⟨B, 0, none⟩))).run Tryd.prog w = .ok (.agg (flatR rL rs).toArray) w :=
  run_loadAt_mid w B 0 57 (flatR rL rs) _ (range_ofL h.blk) Tryd.underlying57 rfl (by rw [flatR_length rs (fun q _ => rl_len q), h.len]; kernel_rfl)
theorem lg_store {w : World} {B : Nat} {rs : List RwQ} (hl : rs.length = 14) (ht : w.there B 0 28) : (Instr.storeAt 57 (.pointer (some ⟨B, 0, none⟩)) (.agg (flatR rL rs).toArray)).run Tryd.prog w = .ok () (w.setCells B 0 (flatR rL rs)) :=
  run_storeAt_mid w B 0 57 (flatR rL rs).toArray (by rw [List.size_toArray, flatR_length rs (fun q _ => rl_len q), hl]; exact ht) (by rw [List.size_toArray, flatR_length rs (fun q _ => rl_len q), hl]; kernel_rfl) (all_oneCell_toArray (flat_one rs))
set_option maxRecDepth 100000 in
set_option maxHeartbeats 4000000 in
theorem clone_any (B : Nat) (rs : List RwQ) (w : World) (h : LgAt w B rs) : Calls Tryd.prog 9 #[.pointer (some ⟨B, 0, none⟩)] w fun e w' => ∃ B', e = .returned (.pointer (some ⟨B', 0, none⟩)) ∧ LgAt w' B' rs ∧ w.heap.size ≤ B' ∧ Kp Nb w w' := by
  obtain ⟨Z, hZ⟩ : ∃ Z, Z = flatR rL zero14 := ⟨_, rfl⟩
  obtain ⟨W1, hW1⟩ : ∃ W, W = w.alloc (.cells Z.toArray 57) := ⟨_, rfl⟩
  have hA : (Instr.alloc 57 true (.tuple #[])).run Tryd.prog w = .ok (.pointer (some ⟨w.heap.size, 0, none⟩)) W1 := by rw [hW1, hZ]; kernel_rfl
  have K1 : Kp Nb w W1 := by rw [hW1]; exact (Kp.refl Nb w).alloc _
  have B1 : Blk W1 w.heap.size 57 (flatR rL zero14) := by rw [hW1, hZ]; exact Blk.new w _ _
  have HL := hid (lg_load h)
  obtain ⟨W2, hW2⟩ : ∃ W, W = W1.setCells w.heap.size 0 (flatR rL rs) := ⟨_, rfl⟩
  obtain ⟨vs, hvs⟩ : ∃ v, (flatR rL rs).toArray = v := ⟨_, rfl⟩
  have HST : Hid ((Instr.storeAt 57 (.pointer (some ⟨w.heap.size, 0, none⟩)) (.agg vs)).run Tryd.prog W1 = .ok () W2) := hid (by rw [hW2, ← hvs]; exact lg_store h.len (B1.there 0 28 (by decide)))
  rw [hvs] at HL
  have HR : Hid (LgAt W2 w.heap.size rs) := hid ⟨by rw [hW2]; exact row_set B1 (by rw [flatR_length rs (fun q _ => rl_len q), h.len]; rfl), h.len, h.ok⟩
  have K2 : Hid (Kp Nb w W2) := hid (by rw [hW2]; exact Kp.setCells (fun h => absurd h (Nat.lt_irrefl _)) _ _ _ K1)
  have HA := hid hA
  clear hW1 hA K1 B1 h hW2 hvs hZ
  go_enter Tryd.func9, Tryd.ntmps9
  go_wp2_with (first
    | (refine wpList_val (by rfl) _ _ (exec_allocL rfl HA.out) ?_)
    | (refine wpList_val (by rfl) _ _ (exec_loadL (T := 57) rfl rfl HL.out) ?_)
    | (refine wp_store_at 57 _ _ rfl (p := ⟨w.heap.size, 0, none⟩) (by rfl) (v := .agg vs) (by rfl) HST.out ?_)
    | (refine wpList_storeL rfl 57 _ _ rfl (p := ⟨w.heap.size, 0, none⟩) (by rfl) (v := .agg vs) (by rfl) HST.out ?_))
  go_ret
  exact ⟨_, rfl, HR.out, Nat.le_refl _, K2.out⟩

/-- Up to the greatest number. -/
def sat (n : Int) : Int := min n mx64
def S1 (rs : List RwQ) : Int := (rs.map (·.1)).sum
def S2 (rs : List RwQ) : Int := (rs.map (·.2)).sum
def totR (rs : List RwQ) : RwQ := (sat (S1 rs), sat (S2 rs))
theorem acc_sat {rs : List RwQ} (ok : ∀ q ∈ rs, RwOk q) : ∀ (pre : List Nat) (a b : Int), 0 ≤ a → 0 ≤ b →
    pre.foldl (fun s x => sumR s (rowAt rs x)) (sat a, sat b) = (sat (a + (pre.map fun x => (rowAt rs x).1).sum), sat (b + (pre.map fun x => (rowAt rs x).2).sum))
  | [], a, b, _, _ => by simp
  | x :: pre, a, b, ha, hb => by
    have h := rowAt_ok ok x
    unfold RwOk u64R at h
    have e : sumR (sat a, sat b) (rowAt rs x) = (sat (a + (rowAt rs x).1), sat (b + (rowAt rs x).2)) := by
      unfold sumR plusS sat
      have hm : (0 : Int) ≤ mx64 := by decide
      refine Prod.ext ?_ ?_
      · show min (min a mx64 + _) mx64 = min _ mx64
        omega
      · show min (min b mx64 + _) mx64 = min _ mx64
        omega
    rw [List.foldl_cons, e, acc_sat ok pre _ _ (by omega) (by omega)]
    simp only [List.map_cons, List.sum_cons, Int.add_assoc]
theorem sum_nz (rs : List RwQ) (f : RwQ → Int) (hf : f (0, 0) = 0) : ∀ k, ((nzT rs k).map fun x => f (rowAt rs x)).sum = ((List.range k).map fun x => f (rowAt rs x)).sum
  | 0 => rfl
  | k + 1 => by
    rw [List.range_succ, List.map_append, List.sum_append, ← sum_nz rs f hf k]
    by_cases h : rowAt rs k = (0, 0)
    · rw [nzT_no rs k h]
      simp [h, hf]
    · rw [nzT_yes rs k h, List.map_append, List.sum_append]
theorem range_rows {rs : List RwQ} (hl : rs.length = 14) : (List.range 14).map (fun x => rowAt rs x) = rs := by
  apply List.ext_getElem?
  intro i
  rw [List.getElem?_map]
  by_cases h : i < 14
  · rw [List.getElem?_range h]
    have e : rs[i]? = some rs[i] := List.getElem?_eq_getElem (by omega)
    show some (rs[i]?.getD (0, 0)) = rs[i]?
    rw [e]
    rfl
  · rw [List.getElem?_eq_none (by simpa using Nat.not_lt.1 h), List.getElem?_eq_none (by omega)]
    rfl
theorem tot_is {rs : List RwQ} (hl : rs.length = 14) (ok : ∀ q ∈ rs, RwOk q) : accR rs (nzT rs 14) = totR rs := by
  have h := acc_sat ok (nzT rs 14) 0 0 (Int.le_refl _) (Int.le_refl _)
  have e0 : (sat 0, sat 0) = ((0, 0) : RwQ) := by decide
  rw [e0] at h
  unfold accR
  rw [h, sum_nz rs (·.1) rfl, sum_nz rs (·.2) rfl, Int.zero_add, Int.zero_add]
  unfold totR S1 S2
  rw [show (List.range 14).map (fun x => (rowAt rs x).1) = ((List.range 14).map (fun x => rowAt rs x)).map (·.1) from (List.map_map ..).symm, show (List.range 14).map (fun x => (rowAt rs x).2) = ((List.range 14).map (fun x => rowAt rs x)).map (·.2) from (List.map_map ..).symm, range_rows hl]
theorem S_set (f : RwQ → Int) : ∀ (rs : List RwQ) (j : Nat) (r : RwQ), j < rs.length → ((rs.set j r).map f).sum = (rs.map f).sum - f (rowAt rs j) + f r
  | [], j, r, h => by simp at h
  | a :: rs, 0, r, _ => by simp [rowAt]; omega
  | a :: rs, j + 1, r, h => by
    have ih := S_set f rs j r (by simpa using h)
    have e : rowAt (a :: rs) (j + 1) = rowAt rs j := by simp [rowAt]
    rw [e]
    simp only [List.set_cons_succ, List.map_cons, List.sum_cons, ih]
    omega
theorem S_nonneg {rs : List RwQ} (ok : ∀ q ∈ rs, RwOk q) : 0 ≤ S1 rs ∧ 0 ≤ S2 rs := by
  induction rs with
  | nil => simp [S1, S2]
  | cons a rs ih =>
    have h := ok a (List.mem_cons_self)
    have h2 := ih (fun q hq => ok q (List.mem_cons_of_mem _ hq))
    unfold RwOk u64R at h
    unfold S1 S2 at h2 ⊢
    simp only [List.map_cons, List.sum_cons]
    omega
theorem S_ge {rs : List RwQ} (ok : ∀ q ∈ rs, RwOk q) (j : Nat) : (rowAt rs j).1 ≤ S1 rs ∧ (rowAt rs j).2 ≤ S2 rs := by
  induction rs generalizing j with
  | nil => simp [S1, S2, rowAt]
  | cons a rs ih =>
    have h := ok a (List.mem_cons_self)
    have h1 : ∀ q ∈ rs, RwOk q := fun q hq => ok q (List.mem_cons_of_mem _ hq)
    have h2 := S_nonneg h1
    unfold RwOk u64R at h
    cases j with
    | zero =>
      unfold S1 S2 at h2 ⊢
      simp only [List.map_cons, List.sum_cons, rowAt, List.getElem?_cons_zero, Option.getD_some]
      omega
    | succ j =>
      have h3 := ih h1 j
      have e : rowAt (a :: rs) (j + 1) = rowAt rs j := by simp [rowAt]
      rw [e]
      unfold S1 S2 at h3 ⊢
      simp only [List.map_cons, List.sum_cons]
      omega
/-- Rows added, row by row. -/
def addR (rs os : List RwQ) : List RwQ := List.zipWith sumR rs os
theorem addR_ok : ∀ {rs os : List RwQ}, (∀ q ∈ rs, RwOk q) → (∀ q ∈ os, RwOk q) → ∀ q ∈ addR rs os, RwOk q
  | [], _, _, _ => fun q hq => by simp [addR] at hq
  | _ :: _, [], _, _ => fun q hq => by simp [addR] at hq
  | a :: rs, b :: os, h1, h2 => fun q hq => by
    unfold addR at hq
    rw [List.zipWith_cons_cons] at hq
    rcases List.mem_cons.1 hq with rfl | hq
    · exact sumR_ok (h1 a (List.mem_cons_self)) (h2 b (List.mem_cons_self))
    · exact addR_ok (fun q hq => h1 q (List.mem_cons_of_mem _ hq)) (fun q hq => h2 q (List.mem_cons_of_mem _ hq)) q hq
theorem addR_sum : ∀ {rs os : List RwQ}, rs.length = os.length → (∀ q ∈ rs, RwOk q) → (∀ q ∈ os, RwOk q) → sat (S1 (addR rs os)) = sat (S1 rs + S1 os) ∧ sat (S2 (addR rs os)) = sat (S2 rs + S2 os)
  | [], [], _, _, _ => ⟨rfl, rfl⟩
  | [], _ :: _, h, _, _ => by simp at h
  | _ :: _, [], h, _, _ => by simp at h
  | a :: rs, b :: os, hl, h1, h2 => by
    have ih := addR_sum (rs := rs) (os := os) (by simpa using hl) (fun q hq => h1 q (List.mem_cons_of_mem _ hq)) (fun q hq => h2 q (List.mem_cons_of_mem _ hq))
    have n1 := S_nonneg (fun q hq => h1 q (List.mem_cons_of_mem _ hq) : ∀ q ∈ rs, RwOk q)
    have n2 := S_nonneg (fun q hq => h2 q (List.mem_cons_of_mem _ hq) : ∀ q ∈ os, RwOk q)
    have n3 := S_nonneg (addR_ok (fun q hq => h1 q (List.mem_cons_of_mem _ hq) : ∀ q ∈ rs, RwOk q) (fun q hq => h2 q (List.mem_cons_of_mem _ hq) : ∀ q ∈ os, RwOk q))
    have ha := h1 a (List.mem_cons_self)
    have hb := h2 b (List.mem_cons_self)
    have e1 : S1 (addR (a :: rs) (b :: os)) = plusS a.1 b.1 + S1 (addR rs os) := by simp [S1, addR, sumR]
    have e2 : S2 (addR (a :: rs) (b :: os)) = plusS a.2 b.2 + S2 (addR rs os) := by simp [S2, addR, sumR]
    have e3 : S1 (a :: rs) = a.1 + S1 rs := by simp [S1]
    have e4 : S1 (b :: os) = b.1 + S1 os := by simp [S1]
    have e5 : S2 (a :: rs) = a.2 + S2 rs := by simp [S2]
    have e6 : S2 (b :: os) = b.2 + S2 os := by simp [S2]
    rw [e1, e2, e3, e4, e5, e6]
    have hm : (0 : Int) ≤ mx64 := by decide
    unfold sat plusS at *
    unfold RwOk u64R at ha hb
    generalize mx64 = m at *
    omega
theorem addR_len {rs os : List RwQ} (h1 : rs.length = 14) (h2 : os.length = 14) : (addR rs os).length = 14 := by simp [addR, h1, h2]
theorem addR_at {rs os : List RwQ} (h1 : rs.length = 14) (h2 : os.length = 14) (k : Nat) (hk : k < 14) : rowAt (addR rs os) k = sumR (rowAt rs k) (rowAt os k) := by
  unfold rowAt addR
  rw [List.getElem?_zipWith, List.getElem?_eq_getElem (by omega), List.getElem?_eq_getElem (by omega)]
  rfl
theorem sumR_zero {q : RwQ} (h : RwOk q) : sumR q (0, 0) = q := by
  unfold RwOk u64R at h
  unfold sumR plusS
  refine Prod.ext ?_ ?_
  · show min (q.1 + 0) mx64 = q.1; omega
  · show min (q.2 + 0) mx64 = q.2; omega
theorem setK_in (rs : List RwQ) (x : Nat) (hx : x < 14) (r : RwQ) : setK rs ((x : Int) + 1) r = rs.set x r := by
  have h : knd ((x : Int) + 1) = true := decide_eq_true (by omega)
  unfold setK
  rw [if_pos h]
  congr 1
  omega
theorem rowOf_in (rs : List RwQ) (x : Nat) (hx : x < 14) : rowOf rs ((x : Int) + 1) = rowAt rs x := by
  have h : knd ((x : Int) + 1) = true := decide_eq_true (by omega)
  unfold rowOf
  rw [if_pos h]
  congr 1
  omega
theorem rowAt_set (rs : List RwQ) (x j : Nat) (hx : x < rs.length) (r : RwQ) : rowAt (rs.set x r) j = if j = x then r else rowAt rs j := by
  unfold rowAt
  by_cases h : j = x
  · subst h
    rw [List.getElem?_set_self hx, if_pos rfl]
    rfl
  · rw [List.getElem?_set_ne (fun e => h e.symm), if_neg h]
theorem addT_len {os rs : List RwQ} (h1 : rs.length = 14) : ∀ pre : List Nat, (addT os rs pre).length = 14 := by
  intro pre
  unfold addT
  induction pre generalizing rs with
  | nil => exact h1
  | cons x xs ih => exact ih (by unfold addStep; rw [setK_len]; exact h1)
theorem addT_at {os rs : List RwQ} (h1 : rs.length = 14) (ok : ∀ q ∈ rs, RwOk q) : ∀ k, k ≤ 14 → ∀ j, j < 14 → rowAt (addT os rs (nzT os k)) j = if j < k then sumR (rowAt rs j) (rowAt os j) else rowAt rs j
  | 0, _, j, _ => rfl
  | k + 1, hk, j, hj => by
    have ih := addT_at (os := os) h1 ok k (by omega)
    by_cases h : rowAt os k = (0, 0)
    · rw [nzT_no os k h, ih j hj]
      by_cases hjk : j < k
      · rw [if_pos hjk, if_pos (by omega)]
      · rw [if_neg hjk]
        by_cases hjk1 : j < k + 1
        · obtain rfl : j = k := by omega
          rw [if_pos hjk1, h, sumR_zero (rowAt_ok ok j)]
        · rw [if_neg hjk1]
    · rw [nzT_yes os k h, addT_snoc]
      unfold addStep
      rw [setK_in _ k (by omega), rowOf_in _ k (by omega), rowAt_set _ _ _ (by rw [addT_len h1]; omega), ih k (by omega), if_neg (Nat.lt_irrefl k)]
      by_cases hjk : j = k
      · subst hjk
        rw [if_pos rfl, if_pos (by omega)]
      · rw [if_neg hjk, ih j hj]
        by_cases hjk2 : j < k
        · rw [if_pos hjk2, if_pos (by omega)]
        · rw [if_neg hjk2, if_neg (by omega)]
theorem rows_ext {rs os : List RwQ} (h1 : rs.length = 14) (h2 : os.length = 14) (h : ∀ k, k < 14 → rowAt rs k = rowAt os k) : rs = os := by
  rw [← range_rows h1, ← range_rows h2]
  apply List.map_congr_left
  intro k hk
  exact h k (List.mem_range.1 hk)
theorem addT_is {os rs : List RwQ} (h1 : rs.length = 14) (h2 : os.length = 14) (ok : ∀ q ∈ rs, RwOk q) : addT os rs (nzT os 14) = addR rs os :=
  rows_ext (addT_len h1 _) (addR_len h1 h2) (fun k hk => by rw [addT_at h1 ok 14 (Nat.le_refl _) k hk, if_pos hk, addR_at h1 h2 k hk])

end Go.Proofs.YtjipcmhknikcgaaDoor
