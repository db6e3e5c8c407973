/-
  Of the texts DtAv, DtK, EyeOn, DtL, PenMa, Rfk, DtAk what is used. No condition but what each says.
-/
import Derived.Test.YtogoophofgkboaaGreatDoorQe
import Derived.Test.YtogoophofgkboaaGreatDoorQd
import Derived.Test.YtogoophofgkboaaGreatDoorQb
import Derived.Test.YtogoophofgkboaaGreatDoorQa
import Derived.Test.YtogoophofgkboaaGreatDoorProg
import Derived.Deep.DeepCutAuto
import Derived.Deep.RegionHeld3
import Derived.Laws.IdiomStrings
namespace Go.Proofs.YtogoophofgkboaaGreatDoor
section
open Go.RowKit
def splF (c : UInt8) (p : List (List UInt8) × List UInt8) (b : UInt8) : List (List UInt8) × List UInt8 := if b = c then (p.1 ++ [p.2], []) else (p.1, p.2 ++ [b])
def splS (c : UInt8) (s : List UInt8) : List (List UInt8) × List UInt8 := s.foldl (splF c) ([], [])
def splL (c : UInt8) (s : List UInt8) : List (List UInt8) := (splS c s).1 ++ [(splS c s).2]
theorem splS_snoc (c b : UInt8) (s : List UInt8) : splS c (s ++ [b]) = splF c (splS c s) b := by unfold splS; rw [List.foldl_append]; rfl
def jnL (c : UInt8) (d : List (List UInt8)) (u : List UInt8) : List UInt8 := d.flatMap (fun x => x ++ [c]) ++ u
theorem jn_fold (c : UInt8) : ∀ (s : List UInt8) (p : List (List UInt8) × List UInt8), jnL c (s.foldl (splF c) p).1 (s.foldl (splF c) p).2 = jnL c p.1 p.2 ++ s
  | [], p => by simp
  | b :: s, p => by
    rw [List.foldl_cons, jn_fold c s]
    unfold splF jnL
    by_cases h : b = c
    · rw [if_pos h]; simp [h]
    · rw [if_neg h]; simp
theorem jn_join (c : UInt8) : ∀ (d : List (List UInt8)) (u : List UInt8), Lib.join (d ++ [u]) [c] = jnL c d u
  | [], u => by rw [List.nil_append, Lib.join_cons]; unfold Lib.joinTail jnL; simp
  | x :: d, u => by
    rw [List.cons_append, Lib.join_cons]
    have ih := jn_join c d u
    cases d with
    | nil => unfold jnL; simp [Lib.joinTail]
    | cons y d =>
      rw [List.cons_append, Lib.join_cons] at ih
      rw [List.cons_append]
      have e : ∀ l : List (List UInt8), Lib.joinTail [c] (y :: l) = [c] ++ (y ++ Lib.joinTail [c] l) := fun l => by simp [Lib.joinTail]
      rw [e, ih]
      unfold jnL
      simp only [List.flatMap_cons, List.append_assoc]
theorem spl_join (c : UInt8) (s : List UInt8) : Lib.join (splL c s) [c] = s := by
  unfold splL
  rw [jn_join]
  unfold splS
  rw [jn_fold]
  rfl
theorem fold_no (c : UInt8) : ∀ (x : List UInt8) (p : List (List UInt8) × List UInt8), c ∉ x → x.foldl (splF c) p = (p.1, p.2 ++ x)
  | [], p, _ => by simp
  | b :: x, p, h => by
    rw [List.foldl_cons, fold_no c x _ (fun hm => h (List.mem_cons_of_mem _ hm))]
    have hb : b ≠ c := fun e => h (by rw [e]; exact List.mem_cons_self)
    unfold splF
    rw [if_neg hb]
    simp
theorem fold_tail (c : UInt8) : ∀ (xs : List (List UInt8)) (p : List (List UInt8) × List UInt8), (∀ y ∈ xs, c ∉ y) → ((Lib.joinTail [c] xs).foldl (splF c) p).1 ++ [((Lib.joinTail [c] xs).foldl (splF c) p).2] = p.1 ++ [p.2] ++ xs
  | [], p, _ => by simp [Lib.joinTail]
  | y :: ys, p, h => by
    have e : Lib.joinTail [c] (y :: ys) = c :: (y ++ Lib.joinTail [c] ys) := by unfold Lib.joinTail; simp
    rw [e, List.foldl_cons, List.foldl_append, fold_no c y _ (h y (by simp)), fold_tail c ys _ (fun z hz => h z (by simp [hz]))]
    unfold splF
    rw [if_pos rfl]
    simp
theorem spl_of (c : UInt8) (x : List UInt8) (xs : List (List UInt8)) (h : ∀ y ∈ x :: xs, c ∉ y) : splL c (Lib.join (x :: xs) [c]) = x :: xs := by
  rw [Lib.join_cons]
  unfold splL splS
  rw [List.foldl_append, fold_no c x _ (h x (by simp)), fold_tail c xs _ (fun y hy => h y (by simp [hy]))]
  simp
theorem spl_len (c : UInt8) : ∀ (s : List UInt8) (p : List (List UInt8) × List UInt8), (s.foldl (splF c) p).1.length ≤ p.1.length + s.length ∧ (s.foldl (splF c) p).2.length ≤ p.2.length + s.length
  | [], p => by simp
  | b :: s, p => by
    rw [List.foldl_cons]
    have ih := spl_len c s (splF c p b)
    have h1 : (splF c p b).1.length ≤ p.1.length + 1 ∧ (splF c p b).2.length ≤ p.2.length + 1 := by
      unfold splF
      split <;> simp
    rw [List.length_cons]
    omega
theorem splS_len (c : UInt8) (s : List UInt8) : (splS c s).1.length ≤ s.length ∧ (splS c s).2.length ≤ s.length := by
  have := spl_len c s ([], [])
  simp only [List.length_nil, Nat.zero_add] at this
  exact this
theorem mem_join (c : UInt8) (d : List (List UInt8)) (u : List UInt8) (x : List UInt8) (h : x ∈ d ++ [u]) : x.length ≤ (jnL c d u).length := by
  unfold jnL
  rw [List.length_append]
  rcases List.mem_append.1 h with h | h
  · have : x.length ≤ (d.flatMap (fun x => x ++ [c])).length := by
      rw [List.length_flatMap]
      obtain ⟨a, b, rfl⟩ := List.append_of_mem h
      rw [List.map_append, List.sum_append, List.map_cons, List.sum_cons, List.length_append]
      omega
    omega
  · rw [List.mem_singleton.1 h]; omega
theorem spl_mem {c : UInt8} {s x : List UInt8} (h : x ∈ splL c s) : x.length ≤ s.length := by
  have := mem_join c (splS c s).1 (splS c s).2 x h
  have e := jn_fold c s ([], [])
  unfold splS at this
  rw [e] at this
  exact this
def numT (s : List UInt8) : Option Nat := if s.length < 1 ∨ 18 < s.length ∨ (1 < s.length ∧ s[0]?.getD 0 = 48) then none else Lib.decFrom 0 s
theorem decFrom_snoc (s : List UInt8) (b : UInt8) : Lib.decFrom 0 (s ++ [b]) = (Lib.decFrom 0 s).bind fun n => (Lib.digitVal b).bind fun d => some (n * 10 + d) := by
  rw [decFrom_app]
  congr 1
  funext n
  simp only [Lib.decFrom]
  cases Lib.digitVal b <;> rfl
theorem digitVal_some {b : UInt8} {d : Nat} (h : Lib.digitVal b = some d) : d < 10 ∧ UInt8.ofNat (48 + d) = b := by
  unfold Lib.digitVal at h
  split at h
  · rename_i hb
    injection h with h
    refine ⟨by omega, ?_⟩
    apply UInt8.toNat_inj.1
    rw [UInt8.toNat_ofNat']
    omega
  · cases h
theorem snoc_of {α : Type} (l : List α) (h : l ≠ []) : ∃ t b, l = t ++ [b] := ⟨l.dropLast, l.getLast h, (List.dropLast_concat_getLast h).symm⟩
theorem dec_zero : Lib.decDigits 0 = [48] := by
  unfold Lib.decDigits
  rw [dif_pos (by decide)]
  rfl
theorem dec_of : ∀ (k : Nat) (s : List UInt8) (n : Nat), s.length = k → s ≠ [] → ¬ (1 < s.length ∧ s[0]?.getD 0 = 48) → Lib.decFrom 0 s = some n → Lib.decDigits n = s := by
  intro k
  induction k with
  | zero => intro s n hk h0 _ _; exact (h0 (List.length_eq_zero_iff.1 hk)).elim
  | succ k ih =>
    intro s n hk h0 hz hn
    obtain ⟨t, b, rfl⟩ := snoc_of s h0
    rw [List.length_append, List.length_singleton] at hk
    rw [decFrom_snoc] at hn
    cases hm : Lib.decFrom 0 t with
    | none => rw [hm] at hn; cases hn
    | some m =>
      rw [hm] at hn
      cases hd : Lib.digitVal b with
      | none => rw [hd] at hn; cases hn
      | some d =>
        rw [hd] at hn
        obtain ⟨d1, d2⟩ := digitVal_some hd
        simp only [Option.bind_some, Option.some.injEq] at hn
        by_cases ht : t = []
        · subst ht
          have : m = 0 := by simp [Lib.decFrom] at hm; omega
          subst this
          unfold Lib.decDigits
          rw [dif_pos (by omega), ← hn, ← d2]
          simp
        · have e := ih t m (by omega) ht (fun h => hz ⟨by rw [List.length_append]; omega, by rw [List.getElem?_append_left (by omega)]; exact h.2⟩) hm
          have hm0 : m ≠ 0 := by
            intro h
            subst h
            have e2 : t = [48] := by rw [← e]; exact dec_zero
            apply hz
            rw [e2]
            exact ⟨by simp, rfl⟩
          unfold Lib.decDigits
          rw [dif_neg (by omega)]
          have e1 : n / 10 = m := by omega
          have e2 : n % 10 = d := by omega
          rw [e1, e2, e, d2]
theorem dec_head : ∀ (n : Nat), 0 < n → (Lib.decDigits n)[0]?.getD 0 ≠ 48 := by
  intro n
  induction n using Nat.strongRecOn with
  | _ n ih =>
    intro h0
    unfold Lib.decDigits
    split
    · rename_i h
      simp only [List.getElem?_cons_zero, Option.getD_some]
      intro e
      have := congrArg UInt8.toNat e
      rw [dig_of n h] at this
      have e48 : (48 : UInt8).toNat = 48 := rfl
      omega
    · have hne := dec_ne (n / 10)
      rw [List.getElem?_append_left (by cases hl : Lib.decDigits (n / 10) with | nil => exact (hne hl).elim | cons a b => simp)]
      exact ih (n / 10) (by omega) (by omega)
theorem numT_itoa (n : Int) (h : 0 ≤ n) (h1 : n ≤ 1099511627776) : numT (Lib.itoa n) = some n.toNat := by
  have hl := itoa_short n h h1
  have hne := itoa_ne n h
  unfold numT
  rw [if_neg, itoa_pos n h, decFrom_dec]
  rintro (h2 | h2 | ⟨h2, h3⟩)
  · cases he : Lib.itoa n with
    | nil => exact hne he
    | cons a b => rw [he, List.length_cons] at h2; omega
  · omega
  · rw [itoa_pos n h] at h2 h3
    by_cases hz : 0 < n.toNat
    · exact dec_head _ hz h3
    · have : n.toNat = 0 := by omega
      rw [this] at h2
      have e : (Lib.decDigits 0).length = 1 := by rw [dec_zero]; rfl
      omega
theorem numT_text {s : List UInt8} {n : Nat} (h : numT s = some n) : Lib.itoa (n : Int) = s := by
  unfold numT at h
  split at h
  · cases h
  · rename_i hc
    rw [itoa_pos _ (by omega), Int.toNat_natCast]
    exact dec_of _ s n rfl (fun e => hc (.inl (by rw [e]; decide))) (fun e => hc (.inr (.inr e))) h
theorem decFrom_lt : ∀ (s : List UInt8) (n : Nat), Lib.decFrom 0 s = some n → n < 10 ^ s.length := by
  intro s
  obtain ⟨k, hk⟩ : ∃ k, s.length = k := ⟨_, rfl⟩
  induction k generalizing s with
  | zero => intro n h; rw [List.length_eq_zero_iff.1 hk] at h; simp [Lib.decFrom] at h; rw [hk]; omega
  | succ k ih =>
    intro n h
    obtain ⟨t, b, rfl⟩ := snoc_of s (by intro e; rw [e] at hk; cases hk)
    rw [List.length_append, List.length_singleton] at hk ⊢
    rw [decFrom_snoc] at h
    cases hm : Lib.decFrom 0 t with
    | none => rw [hm] at h; cases h
    | some m =>
      cases hd : Lib.digitVal b with
      | none => rw [hm, hd] at h; cases h
      | some d =>
        rw [hm, hd] at h
        simp only [Option.bind_some, Option.some.injEq] at h
        have := ih t (by omega) m hm
        have := (digitVal_some hd).1
        rw [Nat.pow_succ]
        omega
def prsQ : List (List UInt8) → Nat → Option RunQ
  | [q0], a => (numT q0).bind fun b => some ((a : Int), (b : Int), (b : Int))
  | [q0, q1], a => (numT q0).bind fun b => (numT q1).bind fun t => if t = b then none else some ((a : Int), (b : Int), (t : Int))
  | _, _ => none
def prsR (w : List UInt8) : Option RunQ :=
  match splL 58 w with
  | [p0, p1] => (numT p0).bind fun a => prsQ (splL 45 p1) a
  | _ => none
def prsL : List (List UInt8) → Option (List RunQ)
  | [] => some []
  | w :: ws => (prsR w).bind fun r => (prsL ws).map (r :: ·)
def parT (s : List UInt8) : Option (List RunQ) := if s = [45] then some [] else (prsL (splL 32 s)).bind fun c => if rightC c then some c else none
theorem prsL_snoc (ws : List (List UInt8)) (w : List UInt8) : ∀ c, prsL ws = some c → prsL (ws ++ [w]) = (prsR w).map (fun r => c ++ [r]) := by
  induction ws with
  | nil =>
    intro c h
    simp only [prsL, Option.some.injEq] at h
    subst h
    simp only [List.nil_append, prsL]
    cases prsR w <;> rfl
  | cons x ws ih =>
    intro c h
    rw [List.cons_append]
    simp only [prsL] at h ⊢
    cases hx : prsR x with
    | none => rw [hx] at h; cases h
    | some r =>
      rw [hx] at h
      simp only [Option.bind_some] at h ⊢
      cases hws : prsL ws with
      | none => rw [hws] at h; cases h
      | some c' =>
        rw [hws] at h
        simp only [Option.map_some, Option.some.injEq] at h
        rw [ih c' hws, ← h]
        cases prsR w <;> rfl
theorem prsL_none (a b : List (List UInt8)) (w : List UInt8) (h : prsR w = none) : prsL (a ++ w :: b) = none := by
  induction a with
  | nil => simp [prsL, h]
  | cons x a ih =>
    rw [List.cons_append]
    simp only [prsL]
    rw [ih]
    cases prsR x <;> rfl
theorem prsL_len : ∀ (ws : List (List UInt8)) (c : List RunQ), prsL ws = some c → c.length = ws.length := by
  intro ws
  induction ws with
  | nil => intro c h; simp only [prsL, Option.some.injEq] at h; rw [← h]; rfl
  | cons x ws ih =>
    intro c h
    simp only [prsL] at h
    cases hx : prsR x with
    | none => rw [hx] at h; cases h
    | some r =>
      cases hws : prsL ws with
      | none => rw [hx, hws] at h; cases h
      | some c' =>
        rw [hx, hws] at h
        simp only [Option.bind_some, Option.map_some, Option.some.injEq] at h
        rw [← h, List.length_cons, List.length_cons, ih c' hws]
theorem join_two (c : UInt8) (x y : List UInt8) : Lib.join [x, y] [c] = x ++ [c] ++ y := by rw [Lib.join_cons]; simp [Lib.joinTail]
theorem join_one (c : UInt8) (x : List UInt8) : Lib.join [x] [c] = x := by rw [Lib.join_cons]; simp [Lib.joinTail]
theorem prsR_text {w : List UInt8} {r : RunQ} (h : prsR w = some r) (hg : r.2.1 ≤ r.2.2) : textR r = w := by
  unfold prsR at h
  split at h
  · rename_i p0 p1 hp
    have ew := spl_join 58 w
    rw [hp, join_two] at ew
    cases ha : numT p0 with
    | none => rw [ha] at h; cases h
    | some a =>
      rw [ha, Option.bind_some] at h
      have ea := numT_text ha
      have eq := spl_join 45 p1
      obtain ⟨Q, hq⟩ : ∃ Q, splL 45 p1 = Q := ⟨_, rfl⟩
      rw [hq] at h eq
      rcases Q with _ | ⟨q0, _ | ⟨q1, _ | ⟨q2, R⟩⟩⟩
      · simp [prsQ] at h
      · dsimp only [prsQ] at h
        cases hb : numT q0 with
        | none => rw [hb] at h; cases h
        | some b =>
          rw [hb, Option.bind_some] at h
          injection h with h
          have eb := numT_text hb
          rw [join_one] at eq
          subst h
          unfold textR
          dsimp only
          rw [if_neg (by omega), ea, eb, eq, List.append_nil, ew]
      · dsimp only [prsQ] at h
        rw [join_two] at eq
        cases hb : numT q0 with
        | none => rw [hb] at h; cases h
        | some b =>
          rw [hb, Option.bind_some] at h
          cases ht : numT q1 with
          | none => rw [ht] at h; cases h
          | some t =>
            rw [ht, Option.bind_some] at h
            split at h
            · cases h
            · rename_i hne
              injection h with h
              have eb := numT_text hb
              have et := numT_text ht
              subst h
              dsimp only at hg
              unfold textR
              dsimp only
              rw [if_pos (by omega), ea, eb, et, ← ew, ← eq]
              simp only [List.append_assoc]
      · simp [prsQ] at h
  · cases h
theorem prsL_text : ∀ (ws : List (List UInt8)) (c : List RunQ), prsL ws = some c → (∀ r ∈ c, goodR r = true) → c.map textR = ws := by
  intro ws
  induction ws with
  | nil => intro c h _; simp only [prsL, Option.some.injEq] at h; rw [← h]; rfl
  | cons x ws ih =>
    intro c h hg
    simp only [prsL] at h
    cases hx : prsR x with
    | none => rw [hx] at h; cases h
    | some r =>
      cases hws : prsL ws with
      | none => rw [hx, hws] at h; cases h
      | some c' =>
        rw [hx, hws] at h
        simp only [Option.bind_some, Option.map_some, Option.some.injEq] at h
        subst h
        have g := goodR_of.1 (hg r (by simp))
        rw [List.map_cons, prsR_text hx (by omega), ih c' hws (fun q hq => hg q (by simp [hq]))]
theorem prsR_of (r : RunQ) (h : goodR r = true) : prsR (textR r) = some r := by
  have g := goodR_of.1 h
  have d1 := fun c (hc : ¬ IsDig c) => not_dig hc (itoa_digs r.1 (by omega))
  have d2 := fun c (hc : ¬ IsDig c) => not_dig hc (itoa_digs r.2.1 (by omega))
  have d3 := fun c (hc : ¬ IsDig c) => not_dig hc (itoa_digs r.2.2 (by omega))
  have hrest : (58 : UInt8) ∉ restR r := by
    intro hm
    unfold restR at hm
    rcases List.mem_append.1 hm with hm | hm
    · exact d2 58 (by decide) hm
    · split at hm
      · rcases List.mem_append.1 hm with hm | hm
        · exact absurd (List.mem_singleton.1 hm) (by decide)
        · exact d3 58 (by decide) hm
      · cases hm
  have e : textR r = Lib.join [Lib.itoa r.1, restR r] [58] := by rw [join_two]; unfold textR restR; simp only [List.append_assoc]
  unfold prsR
  rw [e, spl_of 58 _ _ (by
    intro y hy
    simp only [List.mem_cons, List.not_mem_nil, or_false] at hy
    rcases hy with rfl | rfl
    · exact d1 58 (by decide)
    · exact hrest)]
  dsimp only
  rw [numT_itoa r.1 (by omega) (by omega), Option.bind_some]
  obtain ⟨rn, rf, rt⟩ := r
  dsimp only at g d1 d2 d3 ⊢
  by_cases hlt : rf < rt
  · have e2 : restR (rn, rf, rt) = Lib.join [Lib.itoa rf, Lib.itoa rt] [45] := by rw [join_two]; unfold restR; dsimp only; rw [if_pos hlt]; simp only [List.append_assoc]
    rw [e2, spl_of 45 _ _ (by
      intro y hy
      simp only [List.mem_cons, List.not_mem_nil, or_false] at hy
      rcases hy with rfl | rfl
      · exact d2 45 (by decide)
      · exact d3 45 (by decide))]
    dsimp only [prsQ]
    rw [numT_itoa rf (by omega) (by omega), Option.bind_some, numT_itoa rt (by omega) (by omega), Option.bind_some, if_neg (by omega), Int.toNat_of_nonneg (by omega), Int.toNat_of_nonneg (by omega), Int.toNat_of_nonneg (by omega)]
  · have e2 : restR (rn, rf, rt) = Lib.join [Lib.itoa rf] [45] := by rw [join_one]; unfold restR; dsimp only; rw [if_neg hlt, List.append_nil]
    rw [e2, spl_of 45 _ _ (by
      intro y hy
      simp only [List.mem_cons, List.not_mem_nil, or_false] at hy
      rw [hy]
      exact d2 45 (by decide))]
    dsimp only [prsQ]
    rw [numT_itoa rf (by omega) (by omega), Option.bind_some, Int.toNat_of_nonneg (by omega), Int.toNat_of_nonneg (by omega), show rf = rt by omega]
theorem prsL_of : ∀ (c : List RunQ), (∀ r ∈ c, goodR r = true) → prsL (c.map textR) = some c
  | [], _ => rfl
  | r :: c, h => by
    rw [List.map_cons]
    simp only [prsL]
    rw [prsR_of r (h r (by simp)), prsL_of c (fun q hq => h q (by simp [hq]))]
    rfl
theorem parT_iff (s : List UInt8) (c : List RunQ) : parT s = some c ↔ rightC c = true ∧ textC c = s := by
  unfold parT
  constructor
  · intro h
    split at h
    · rename_i hs
      injection h with h
      subst h
      exact ⟨rfl, by rw [hs]; rfl⟩
    · cases hp : prsL (splL 32 s) with
      | none => rw [hp] at h; cases h
      | some c' =>
        rw [hp, Option.bind_some] at h
        split at h
        · rename_i hr
          injection h with h
          subst h
          refine ⟨hr, ?_⟩
          have hl := prsL_len _ _ hp
          have h0 : c'.length ≠ 0 := by rw [hl]; unfold splL; simp
          unfold textC
          rw [if_pos hr, if_neg h0, prsL_text _ _ hp (right_good hr), spl_join]
        · cases h
  · rintro ⟨hr, rfl⟩
    by_cases h0 : c.length = 0
    · rw [List.length_eq_zero_iff.1 h0]; rfl
    · have hne : textC c ≠ [45] := fun e => textC_ne hr h0 (by rw [e])
      have e : textC c = Lib.join (c.map textR) [32] := by unfold textC; rw [if_pos hr, if_neg h0]
      have hg := right_good hr
      rw [if_neg hne, e]
      have hs : splL 32 (Lib.join (c.map textR) [32]) = c.map textR := by
        cases c with
        | nil => exact (h0 rfl).elim
        | cons q c =>
          rw [List.map_cons]
          exact spl_of 32 _ _ (fun y hy => by
            rw [← List.map_cons] at hy
            obtain ⟨z, hz, rfl⟩ := List.mem_map.1 hy
            exact textR_no z (hg z hz) 32 (by decide) (by decide) (by decide))
      rw [hs, prsL_of c hg, Option.bind_some, if_pos hr]
theorem parT_len {s : List UInt8} {c : List RunQ} (h : parT s = some c) : c.length ≤ s.length := by
  obtain ⟨hr, rfl⟩ := (parT_iff s c).1 h
  by_cases h0 : c.length = 0
  · omega
  · have e : textC c = Lib.join (c.map textR) [32] := by unfold textC; rw [if_pos hr, if_neg h0]
    rw [e]
    have hl : ∀ (xs : List (List UInt8)), xs.length ≤ (Lib.joinTail [32] xs).length := by
      intro xs
      induction xs with
      | nil => simp [Lib.joinTail]
      | cons x xs ih =>
        have e : Lib.joinTail [32] (x :: xs) = [32] ++ (x ++ Lib.joinTail [32] xs) := by simp [Lib.joinTail]
        rw [e, List.length_append, List.length_append, List.length_cons, List.length_singleton]
        omega
    cases c with
    | nil => exact (h0 rfl).elim
    | cons q c =>
      rw [List.map_cons, Lib.join_cons, List.length_append, List.length_cons]
      have h1 := hl (c.map textR)
      rw [List.length_map] at h1
      have h2 : 1 ≤ (textR q).length := by unfold textR; simp only [List.length_append, List.length_singleton]; omega
      omega
end
section
open Go.RowKit
def bytesR (q : RunQ) : List Int := numBytes q.1 ++ numBytes q.2.1 ++ numBytes (q.2.2 - q.2.1)
def runsB (c : List RunQ) : List Int := c.flatMap bytesR
def bytesC (c : List RunQ) : List Int := numBytes (c.length : Int) ++ runsB c
theorem runsB_snoc (c : List RunQ) (k : Nat) (hk : k < c.length) : runsB (c.take (k + 1)) = runsB (c.take k) ++ bytesR (runAt c k) := by
  unfold runsB
  rw [take_snocR c k hk, List.flatMap_append]
  simp
theorem runsB_len : ∀ (c : List RunQ), (∀ q ∈ c, goodR q = true) → (runsB c).length ≤ c.length * 27
  | [], _ => by simp [runsB]
  | q :: c, h => by
    have ih := runsB_len c (fun x hx => h x (by simp [hx]))
    have g := goodR_of.1 (h q (by simp))
    have h1 := numBytes_length q.1 (by omega)
    have h2 := numBytes_length q.2.1 (by omega)
    have h3 := numBytes_length (q.2.2 - q.2.1) (by omega)
    have h4 : (bytesR q).length ≤ 27 := by unfold bytesR; rw [List.length_append, List.length_append]; omega
    unfold runsB at ih ⊢
    rw [List.flatMap_cons, List.length_append, List.length_cons]
    omega
theorem ClSl.keptV {S : Nat → Prop} {w w' : World} {v : Value} {c : List RunQ} (h : ClSl w v c) (k : Kp S w w') (hS : ∀ g, v.ownBlock = some g → ¬ S g) : ClSl w' v c := by
  refine ⟨h.1, ?_⟩
  rcases h.2 with h | ⟨blk, off, cap, rfl, hc, hm, hr⟩
  · exact .inl h
  · exact .inr ⟨blk, off, cap, rfl, hc, hm, fun i hi j u hu => k.cell (hr i hi j u hu) (hS blk rfl)⟩
theorem PenTo.kpNb {a b c : World} {P : Nat} {v v' : Value} (h : PenTo a b P v v') (k : Kp Nb b c) : PenTo a c P v v' := ⟨h.kp.trans k (fun _ _ h => h.elim), h.at'⟩
theorem PenTo.box {a b : World} {P M : Nat} {t : TypeId} {v v' : Value} {vs : List Value} (h : PenTo a b P v v') (hb : Blk a M t vs) (hP : M ≠ P) (hv : v.ownBlock ≠ some M) : Blk b M t vs ∧ v'.ownBlock ≠ some M := by
  refine ⟨hb.kept h.kp (fun hp => hp.elim (fun e => hP e) (fun e => hv e)), ?_⟩
  rcases h.at' with e | e
  · rw [e]; exact hv
  · intro hg; have := e M hg; have := hb.lt; omega
theorem PenAt.own_lt {w : World} {B : Nat} {v : Value} {zs : List Int} (h : PenAt w B v zs) {g : Nat} (hg : v.ownBlock = some g) : g < w.heap.size := (h.own.lt g hg).2
/-- What Put answers. -/
def putB (c : List RunQ) : Bool := rightC c && decide (c.length ≤ 1024)
end
section
open Go.RowKit
def EyeOn (S : Nat → Prop) (w : World) (B : Nat) (zs : List Int) (e : Int) : Prop := ∃ v, Blk w B 92 [v, .int .i64 e] ∧ BySl S w v zs
theorem EyeOn.lt {S : Nat → Prop} {w : World} {B : Nat} {zs : List Int} {e : Int} (h : EyeOn S w B zs e) : B < w.heap.size := by obtain ⟨v, hb, _⟩ := h; exact hb.lt
theorem EyeOn.kept {S S' : Nat → Prop} {w w' : World} {B : Nat} {zs : List Int} {e : Int} (h : EyeOn S w B zs e) (k : Kp S' w w') (hB : ¬ S' B) (hS : ∀ i, S' i → S i) : EyeOn S w' B zs e := by
  obtain ⟨v, hb, hv⟩ := h
  exact ⟨v, hb.kept k hB, hv.kept k hS⟩
theorem EyeOn.drew {S : Nat → Prop} {w : World} {B : Nat} {zs : List Int} {e : Int} (h : EyeOn S w B zs e) : EyeOn S w.drew B zs e := h.kept ((Kp.refl Nb w).drew) (fun h => h) (fun _ h => h.elim)
/-- Of blocks that come later the bytes lie in none. -/
theorem EyeOn.of {w : World} {B : Nat} {zs : List Int} {e : Int} (h : EyeAt w B zs e) (N : Nat) (hN : w.heap.size ≤ N) : EyeOn (fun i => i = B ∨ N ≤ i) w B zs e := by
  obtain ⟨v, hb, hy, hv⟩ := h
  refine ⟨v, hb, hy, ?_⟩
  rcases hv with hv | ⟨blk, off, cap, rfl, hc, hm, hat, hS⟩
  · exact .inl hv
  · refine .inr ⟨blk, off, cap, rfl, hc, hm, hat, fun h0 hp => ?_⟩
    rcases hp with hp | hp
    · exact hS h0 hp
    · have := World.block_lt_of_cell? w _ (hat 0 h0)
      dsimp only at this
      omega
theorem EyeOn.at {S : Nat → Prop} {w : World} {B : Nat} {zs : List Int} {e : Int} (h : EyeOn S w B zs e) (hS : ∀ i, Jb B i → S i) : EyeAt w B zs e := by
  obtain ⟨v, hb, hy, hv⟩ := h
  refine ⟨v, hb, hy, ?_⟩
  rcases hv with hv | ⟨blk, off, cap, rfl, hc, hm, hat, h0⟩
  · exact .inl hv
  · exact .inr ⟨blk, off, cap, rfl, hc, hm, hat, fun h1 hp => h0 h1 (hS _ hp)⟩
set_option maxHeartbeats 400000 in
theorem err_on (B : Nat) (zs : List Int) (e : Int) (w : World) {S : Nat → Prop} (hS : ∀ i, Jb B i → S i) (h : EyeOn S w B zs e) :
    Calls Tryz.prog 31 #[.pointer (some ⟨B, 0, none⟩)] w fun r w' => r = .returned (.int .i64 e) ∧ w = w' := by
  have HS := hid hS
  clear hS
  obtain ⟨v, hb, -⟩ := h
  have c1 := hb.cell 1
  have c0 := hb.cell 0
  simp only [List.getElem?_cons_zero, List.getElem?_cons_succ] at c0 c1
  clear hb
  go_enter Tryz.func31, Tryz.ntmps31
  go_wp2
  go_ret
  exact ⟨rfl, rfl⟩
set_option maxHeartbeats 400000 in
theorem fail_on (B : Nat) (zs : List Int) (e f : Int) (w : World) {S : Nat → Prop} (hS : ∀ i, Jb B i → S i) (h : EyeOn S w B zs e) :
    Calls Tryz.prog 66 #[.pointer (some ⟨B, 0, none⟩), .int .i64 f] w fun r w' => r = .returned (.tuple #[]) ∧ EyeOn S w' B (failS zs e f) (failE e f) ∧ Kp (Jb B) w w' := by
  have HS := hid hS
  clear hS
  obtain ⟨v, hb, hv⟩ := h
  have c1 := hb.cell 1
  have c0 := hb.cell 0
  simp only [List.getElem?_cons_zero, List.getElem?_cons_succ] at c0 c1
  have f0 := hb.frozen 0
  have f1 := hb.frozen 1
  have HB := hid hb
  have HV := hid hv
  clear hb hv
  by_cases h0 : e = 0
  · by_cases h1 : f = 0
    · have HN := hid (show ¬ (e = 0 ∧ f ≠ 0) by omega)
      have g1 : (f != 0) = false := by rw [bne_eq_false_iff_eq]; exact h1
      subst h0
      go_enter Tryz.func66, Tryz.ntmps66
      go_wp2
      go_end0
      exact ⟨rfl, by simp only [failS, failE, ne_eq, not_true_eq_false, and_false, if_false]; exact ⟨v, HB.out, HV.out⟩, Kp.refl _ _⟩
    · have HN := hid (show (e = 0 ∧ f ≠ 0) from ⟨h0, h1⟩)
      have g1 : (f != 0) = true := by rw [bne_iff_ne]; exact h1
      subst h0
      go_enter Tryz.func66, Tryz.ntmps66
      go_wp2
      go_end0
      refine ⟨rfl, ?_, ((Kp.refl (Jb B) w).set 1 _).set 0 _⟩
      have hf := HN.out.2
      simp only [failS, failE, ne_eq, hf, not_false_eq_true, and_true, if_true]
      exact ⟨.slice none 0 0, (HB.out.set 1 (.int .i64 f)).set 0 (.slice none 0 0), fun i => by simp, .inl ⟨⟨none, 0, rfl⟩, rfl⟩⟩
  · have HN := hid (show ¬ (e = 0 ∧ f ≠ 0) by omega)
    have g1 : (e == 0) = false := by rw [beq_eq_false_iff_ne]; exact h0
    go_enter Tryz.func66, Tryz.ntmps66
    go_wp2
    go_end0
    exact ⟨rfl, by unfold failS failE; rw [if_neg HN.out, if_neg HN.out]; exact ⟨v, HB.out, HV.out⟩, Kp.refl _ _⟩
set_option maxRecDepth 100000 in
set_option maxHeartbeats 1000000 in
theorem number_on (B : Nat) (zs : List Int) (e most : Int) (w : World) {S : Nat → Prop} (hS : ∀ i, Jb B i → S i) (h : EyeOn S w B zs e) :
    Calls Tryz.prog 64 #[.pointer (some ⟨B, 0, none⟩), .int .u64 most] w fun r w' => r = .returned (.int .u64 (readN zs e most).1) ∧ EyeOn S w' B (readN zs e most).2.1 (readN zs e most).2.2 ∧ Kp (Jb B) w w' := by
  have HS := hid hS
  clear hS
  have H := hid h
  obtain ⟨v, hb, hv⟩ := h
  have c0 := hb.cell 0
  simp only [List.getElem?_cons_zero] at c0
  have f0 := hb.frozen 0
  have HB := hid hb
  have HV := hid hv
  clear hb hv
  obtain ⟨R, hR⟩ : ∃ R, R = readN zs e most := ⟨_, rfl⟩
  rw [← hR]
  have HR := hid hR
  clear hR
  unfold readN at HR
  by_cases he : e = 0
  · subst he
    have HR2 := HR.out.trans (if_neg (fun h => h rfl))
    have HR := hid HR2
    clear HR2
    have hok := firstOf_ok zs
    have HF : Hid (firstVal zs = .tuple #[.int .u64 (firstOf zs).1, .int .i64 (firstOf zs).2.1, .int .i64 (firstOf zs).2.2]) := (rfl : firstVal zs = firstVal zs)
    obtain ⟨⟨U, N, E⟩, hF⟩ : ∃ F, F = firstOf zs := ⟨_, rfl⟩
    rw [← hF] at HR hok HF
    clear hF
    simp only at HR hok HF
    go_enter Tryz.func64, Tryz.ntmps64
    go_wp2_with fail
    refine (err_on B zs 0 _ HS.out H.out).mono ?_
    rintro r w1 ⟨rfl, rfl⟩
    go_wp2_with fail
    refine (firstb_any v zs _ HV.out).mono ?_
    rintro r w1 ⟨rfl, rfl⟩
    rw [HF.out]
    by_cases hE : E = 0
    · subst hE
      have HR2 := HR.out.trans (if_neg (fun h => h rfl))
      by_cases hm : most < U
      · rw [if_pos hm] at HR2
        subst HR2
        clear HR hok
        go_wp2_with fail
        refine (fail_on B zs 0 12 _ HS.out H.out).mono ?_
        rintro r w2 ⟨rfl, h2, k2⟩
        have H2 := hid h2
        have K2 := hid k2
        clear h2 k2
        go_wp2
        go_ret
        exact ⟨rfl, H2.out, K2.out⟩
      · rw [if_neg hm] at HR2
        subst HR2
        clear HR
        have hN := hok rfl
        clear hok
        obtain ⟨xv, cv, hV1, hV2⟩ := HV.out.cutL N hN.2
        have HV2 := hid hV2
        clear hV2
        go_wp2
        go_ret
        refine ⟨rfl, ⟨_, HB.out.set 0 _, ?_⟩, (Kp.refl _ _).set 0 _⟩
        exact HV2.out.kept ((Kp.refl (Jb B) _).set 0 _) HS.out
    · have HR2 := HR.out
      rw [if_pos hE] at HR2
      subst HR2
      clear HR hok
      have g1 : (E == 0) = false := by rw [beq_eq_false_iff_ne]; exact hE
      have g2 : (E != 0) = true := by rw [bne_iff_ne]; exact hE
      have HE := hid hE
      clear hE
      go_wp2_with fail
      refine (fail_on B zs 0 E _ HS.out H.out).mono ?_
      rintro r w2 ⟨rfl, h2, k2⟩
      have e1 : failS zs 0 E = [] := by unfold failS; rw [if_pos ⟨rfl, HE.out⟩]
      have e2 : failE 0 E = E := by unfold failE; rw [if_pos ⟨rfl, HE.out⟩]
      rw [e1, e2] at h2
      have H2 := hid h2
      have K2 := hid k2
      clear h2 k2 e1 e2
      go_wp2
      go_ret
      exact ⟨rfl, H2.out, K2.out⟩
  · have HR2 := HR.out
    rw [if_pos he] at HR2
    subst HR2
    clear HR
    have g1 : (e != 0) = true := by rw [bne_iff_ne]; exact he
    clear he
    go_enter Tryz.func64, Tryz.ntmps64
    go_wp2_with fail
    refine (err_on B zs e _ HS.out H.out).mono ?_
    rintro r w1 ⟨rfl, rfl⟩
    go_wp2
    go_ret
    exact ⟨rfl, H.out, Kp.refl _ _⟩
end
section
open Go.RowKit Go.Shelf
attribute [local go_sem] Oper.semAt_some
theorem readN_okD (zs : List Int) (e most : Int) (hz : IsBytes zs) : IsBytes (readN zs e most).2.1 := by
  have hn : IsBytes [] := fun i => by simp
  unfold readN
  split
  · exact hz
  · split
    · exact hn
    · split
      · exact hn
      · exact hz.drop _
theorem readN_topD (zs : List Int) (e most : Int) (hz : IsBytes zs) (hm : 0 ≤ most) : 0 ≤ (readN zs e most).1 ∧ (readN zs e most).1 ≤ most := by
  have hr := readN_range zs e most hz
  refine ⟨hr.1, ?_⟩
  unfold readN
  split
  · exact hm
  · split
    · exact hm
    · split
      · exact hm
      · rename_i h
        show (firstOf zs).1 ≤ most
        omega
/-- One run read: what came, what is left, the error. -/
def rdA (z : List Int) (e : Int) : Int × List Int × Int := readN z e 7
def rdB (z : List Int) (e : Int) : Int × List Int × Int := readN (rdA z e).2.1 (rdA z e).2.2 1099511627776
def rdC (z : List Int) (e : Int) : Int × List Int × Int := readN (rdB z e).2.1 (rdB z e).2.2 1099511627776
def getLC : Nat → List Int → Int → List RunQ → Option (List RunQ) × List Int × Int
  | 0, z, e, acc => (some acc, z, e)
  | k + 1, z, e, acc => if (rdC z e).2.2 ≠ 0 then (none, (rdC z e).2.1, (rdC z e).2.2) else getLC k (rdC z e).2.1 (rdC z e).2.2 (acc ++ [((rdA z e).1, (rdB z e).1, (rdB z e).1 + (rdC z e).1)])
def finC : Option (List RunQ) × List Int × Int → List RunQ × List Int × Int
  | (none, z, e) => ([], z, e)
  | (some l, z, e) => if rightC l then (l, z, e) else ([], failS z e 11, failE e 11)
/-- A clock read. -/
def getC (zs : List Int) (e : Int) : List RunQ × List Int × Int := finC (getLC (readN zs e 1024).1.toNat (readN zs e 1024).2.1 (readN zs e 1024).2.2 [])
theorem eyeOn_bytes {S : Nat → Prop} {w : World} {B : Nat} {zs : List Int} {e : Int} (h : EyeOn S w B zs e) : IsBytes zs := by obtain ⟨v, hb, hv⟩ := h; exact hv.1
theorem ownsRow_kpJ {w w' : World} {base e size k B : Nat} {v : Value} {xs : List Value} (h : w.ownsRow base e size v k xs) (hk : Kp (Jb B) w w') (hB : B < base) : w'.ownsRow base e size v k xs :=
  ownsRow_same h (fun g hg => by obtain ⟨h1, o, ho, -⟩ := row_cells h hg; exact hk.heap (Array.getElem?_eq_some_iff.1 ho).1 (fun h => by have h' : g = B := h; omega))
theorem own_nil (w w' : World) : OwnV w (.slice none 0 0) w' := by intro g hg; simp [Value.ownBlock] at hg
def GtR (w : World) (S : Nat → Prop) (B : Nat) (n : Nat) (R : Option (List RunQ) × List Int × Int) (a u : Value) (wr : World) : Prop := ∃ (k : Nat) (out : List RunQ) (z : List Int) (e : Int), k ≤ n ∧ a = .int .i64 k ∧ Hid (EyeOn S wr B z e) ∧ Hid (wr.ownsRow w.heap.size 38 3 u out.length (flatR runL out)) ∧
  Hid (∀ q ∈ out, RunOk q) ∧ Hid (getLC (n - k) z e out = R) ∧ Hid (out.length ≤ k) ∧ Hid (Kp (Jb B) w wr)
end
section
open Go.RowKit
theorem bl_bounds : ∀ (f x : Nat), x < 2 ^ f → x ≠ 0 → 1 ≤ Lib.bitLenAux f x ∧ 2 ^ (Lib.bitLenAux f x - 1) ≤ x ∧ x < 2 ^ Lib.bitLenAux f x
  | 0, x, h, h0 => by simp at h; omega
  | f + 1, x, h, h0 => by
    unfold Lib.bitLenAux
    rw [if_neg h0]
    by_cases h2 : x / 2 = 0
    · have hx : x = 1 := by omega
      subst hx
      have e : Lib.bitLenAux f (1 / 2) = 0 := by
        cases f with
        | zero => rfl
        | succ f => unfold Lib.bitLenAux; rfl
      rw [e]
      decide
    · have ih := bl_bounds f (x / 2) (by rw [Nat.pow_succ] at h; omega) h2
      obtain ⟨i1, i2, i3⟩ := ih
      refine ⟨by omega, ?_, ?_⟩
      · have e : 1 + Lib.bitLenAux f (x / 2) - 1 = (Lib.bitLenAux f (x / 2) - 1) + 1 := by omega
        rw [e, Nat.pow_succ]
        omega
      · rw [Nat.add_comm, Nat.pow_succ]
        omega
theorem bitLen_bounds (x : Nat) (h : x < 18446744073709551616) (h0 : x ≠ 0) : 1 ≤ Lib.bitLen x ∧ 2 ^ (Lib.bitLen x - 1) ≤ x ∧ x < 2 ^ Lib.bitLen x := bl_bounds 64 x h h0
theorem kOf_bounds (u : Int) (h0 : 0 < u) (h1 : u < 18446744073709551616) : 1 ≤ kOf u ∧ (2 : Int) ^ (8 * (kOf u - 1)) ≤ u ∧ u < 2 ^ (8 * kOf u) := by
  obtain ⟨U, rfl⟩ := Int.eq_ofNat_of_zero_le (Int.le_of_lt h0)
  have hb := bitLen_bounds U (by omega) (by omega)
  unfold kOf
  rw [Int.toNat_natCast]
  obtain ⟨L, hL⟩ : ∃ L, L = Lib.bitLen U := ⟨_, rfl⟩
  rw [← hL] at hb ⊢
  obtain ⟨b1, b2, b3⟩ := hb
  have e1 : 2 ^ (8 * ((L + 7) / 8 - 1)) ≤ 2 ^ (L - 1) := Nat.pow_le_pow_right (by decide) (by omega)
  have e2 : 2 ^ L ≤ 2 ^ (8 * ((L + 7) / 8)) := Nat.pow_le_pow_right (by decide) (by omega)
  refine ⟨by omega, ?_, ?_⟩
  · have : (((2 ^ (8 * ((L + 7) / 8 - 1)) : Nat)) : Int) ≤ (U : Int) := by omega
    rw [Int.natCast_pow] at this
    exact this
  · have : (U : Int) < (((2 ^ (8 * ((L + 7) / 8)) : Nat)) : Int) := by omega
    rw [Int.natCast_pow] at this
    exact this
/-- A number of bytes, the greatest first. -/
def beN (xs : List Int) : Int := xs.foldl (fun a x => a * 256 + x) 0
theorem beN_snoc (xs : List Int) (x : Int) : beN (xs ++ [x]) = beN xs * 256 + x := by unfold beN; rw [List.foldl_append]; rfl
theorem beN_acc (xs : List Int) : ∀ a : Int, xs.foldl (fun a x => a * 256 + x) a = a * 256 ^ xs.length + beN xs := by
  induction xs with
  | nil => intro a; simp [beN]
  | cons x r ih =>
    intro a
    show r.foldl _ (a * 256 + x) = _
    have h2 : beN (x :: r) = (0 * 256 + x) * 256 ^ r.length + beN r := by show r.foldl _ (0 * 256 + x) = _; rw [ih]
    rw [ih, h2, List.length_cons, Int.pow_succ, Int.add_mul, Int.add_mul, Int.zero_mul, Int.zero_mul, Int.zero_add, Int.mul_comm (256 ^ r.length) 256, ← Int.mul_assoc]
    omega
theorem beN_cons (x : Int) (r : List Int) : beN (x :: r) = x * 256 ^ r.length + beN r := by
  show r.foldl _ (0 * 256 + x) = _
  rw [beN_acc, Int.zero_mul, Int.zero_add]
theorem beN_range (xs : List Int) (h : IsBytes xs) : 0 ≤ beN xs ∧ beN xs < 256 ^ xs.length := by
  induction xs with
  | nil => exact ⟨Int.le_refl _, by decide⟩
  | cons x r ih =>
    have i := ih h.tail
    have hx := h.head
    rw [beN_cons, List.length_cons, Int.pow_succ]
    have hp : (0 : Int) ≤ 256 ^ r.length := Int.pow_nonneg (by decide)
    obtain ⟨Q, hQ⟩ : ∃ Q : Int, Q = 256 ^ r.length := ⟨_, rfl⟩
    rw [← hQ] at i hp ⊢
    have e1 : 0 ≤ x * Q := Int.mul_nonneg hx.1 hp
    have e2 : x * Q ≤ 255 * Q := Int.mul_le_mul_of_nonneg_right (by omega) hp
    omega
theorem div_step (u : Int) (m : Nat) : u / 2 ^ (8 * (m + 1)) * 256 + u / 2 ^ (8 * m) % 256 = u / 2 ^ (8 * m) := by
  have e : (2 : Int) ^ (8 * (m + 1)) = 2 ^ (8 * m) * 256 := by rw [show 8 * (m + 1) = 8 * m + 8 from by omega, Int.pow_add]; rfl
  rw [e, ← Int.ediv_ediv_of_nonneg (Int.pow_nonneg (by decide))]
  omega
theorem digits_num (u : Int) (h0 : 0 ≤ u) (k : Nat) (hk : u < 2 ^ (8 * k)) : ∀ j, j ≤ k → beN (digits u k j) = u / 2 ^ (8 * (k - j))
  | 0, _ => by
    show (0 : Int) = _
    rw [Nat.sub_zero]
    exact (Int.ediv_eq_zero_of_lt h0 hk).symm
  | j + 1, hj => by
    rw [digits_succ, beN_snoc, digits_num u h0 k hk j (by omega)]
    unfold digit
    have e : k - j = (k - (j + 1)) + 1 := by omega
    have e2 : k - 1 - j = k - (j + 1) := by omega
    rw [e, e2]
    exact div_step u _
theorem digits_all (u : Int) (h0 : 0 ≤ u) (k : Nat) (hk : u < 2 ^ (8 * k)) : beN (digits u k k) = u := by
  rw [digits_num u h0 k hk k (Nat.le_refl _), Nat.sub_self]
  exact Int.ediv_one u
theorem digits_length (u : Int) (k j : Nat) : (digits u k j).length = j := by unfold digits; simp
theorem digits_bytes (u : Int) (k j : Nat) : IsBytes (digits u k j) := by
  refine IsBytes.of fun z hz => ?_
  unfold digits at hz
  obtain ⟨i, _, rfl⟩ := List.mem_map.1 hz
  unfold digit
  omega
theorem or_step (A d : Int) (h0 : 0 ≤ A) (h1 : A < 72057594037927936) (d0 : 0 ≤ d) (d1 : d < 256) : bits .or .u64 (IntKind.u64.wrap (A * 256)) d = A * 256 + d := by
  obtain ⟨a, rfl⟩ := Int.eq_ofNat_of_zero_le h0
  obtain ⟨e, rfl⟩ := Int.eq_ofNat_of_zero_le d0
  have hw : IntKind.u64.wrap ((a : Int) * 256) = ((a * 256 : Nat) : Int) := by rw [IntKind.wrap_u64]; omega
  rw [hw, bits_or_u64_nat _ _ (by omega) (by omega)]
  have := Nat.shiftLeft_add_eq_or_of_lt (i := 8) (show e < 2 ^ 8 by omega) a
  rw [Nat.shiftLeft_eq, show (2 : Nat) ^ 8 = 256 from rfl] at this
  omega
theorem beTo_num (zs : List Int) (h : IsBytes zs) : ∀ k, k ≤ 8 → k ≤ zs.length → beTo zs k = beN (zs.take k)
  | 0, _, _ => rfl
  | k + 1, hk, hl => by
    have ih := beTo_num zs h k (by omega) (by omega)
    have hr := beN_range (zs.take k) (h.take k)
    rw [List.length_take, Nat.min_eq_left (by omega)] at hr
    have hp : (256 : Int) ^ k ≤ 256 ^ 7 := by
      rw [pow_nat, pow_nat]
      have := Nat.pow_le_pow_right (n := 2) (by decide) (show 8 * k ≤ 8 * 7 by omega)
      omega
    have hq : (256 : Int) ^ 7 = 72057594037927936 := by decide
    show bits .or .u64 (IntKind.u64.wrap (beTo zs k * 256)) (zs[k]?.getD 0) = _
    rw [ih, take_snoc zs k (by omega), beN_snoc]
    exact or_step _ _ hr.1 (by omega) (h k).1 (h k).2
theorem numBytes_bytes (u : Int) (h0 : 0 ≤ u) (h1 : u < 18446744073709551616) : IsBytes (numBytes u) := by
  unfold numBytes
  split
  · exact IsBytes.one h0 (by omega)
  · have := kOf_le u h1
    exact (IsBytes.one (by omega) (by omega)).append (digits_bytes _ _ _)
theorem numBytes_size (u : Int) : (numBytes u).length = sizeN u := by
  unfold numBytes sizeN
  split
  · rfl
  · rw [List.length_append, digits_length]; rfl
theorem firstOf_numBytes (u : Int) (h0 : 0 ≤ u) (h1 : u < 18446744073709551616) (rest : List Int) (hr : IsBytes rest) : firstOf (numBytes u ++ rest) = (u, sizeN u, 0) := by
  by_cases hu : u ≤ 247
  · have e : numBytes u = [u] := by unfold numBytes; rw [if_pos hu]
    have e2 : sizeN u = 1 := by unfold sizeN; rw [if_pos hu]
    rw [e, e2]
    unfold firstOf
    rw [if_neg (by simp)]
    have e3 : ([u] ++ rest)[0]?.getD 0 = u := rfl
    rw [e3, if_pos hu]
  · obtain ⟨k1, k2, k3⟩ := kOf_bounds u (by omega) h1
    have k8 := kOf_le u h1
    have e : numBytes u = [247 + (kOf u : Int)] ++ digits u (kOf u) (kOf u) := by unfold numBytes; rw [if_neg hu]
    have e2 : sizeN u = 1 + kOf u := by unfold sizeN; rw [if_neg hu]
    rw [e]
    unfold firstOf
    have e3 : ([247 + (kOf u : Int)] ++ digits u (kOf u) (kOf u) ++ rest)[0]?.getD 0 = 247 + (kOf u : Int) := rfl
    have e4 : (247 + (kOf u : Int) - 247).toNat = kOf u := by omega
    have e5 : ([247 + (kOf u : Int)] ++ digits u (kOf u) (kOf u) ++ rest).length = 1 + kOf u + rest.length := by rw [List.length_append, List.length_append, digits_length]; rfl
    have e6 : ([247 + (kOf u : Int)] ++ digits u (kOf u) (kOf u) ++ rest).drop 1 = digits u (kOf u) (kOf u) ++ rest := rfl
    have hb : beTo (digits u (kOf u) (kOf u) ++ rest) (kOf u) = u := by
      rw [beTo_num _ ((digits_bytes _ _ _).append hr) _ k8 (by rw [List.length_append, digits_length]; omega)]
      have : (digits u (kOf u) (kOf u) ++ rest).take (kOf u) = digits u (kOf u) (kOf u) := by
        have := List.take_left (l₁ := digits u (kOf u) (kOf u)) (l₂ := rest)
        rwa [digits_length] at this
      rw [this, digits_all u h0 _ k3]
    rw [e3, e4, e5, e6, hb, if_neg (by omega), if_neg (by omega), if_neg (by omega), if_pos e2, e2]
theorem readN_numBytes (u most : Int) (h0 : 0 ≤ u) (h1 : u < 18446744073709551616) (hm : u ≤ most) (rest : List Int) (hr : IsBytes rest) : readN (numBytes u ++ rest) 0 most = (u, rest, 0) := by
  unfold readN
  rw [firstOf_numBytes u h0 h1 rest hr, if_neg (by simp), if_neg (by simp), if_neg (by show ¬ most < u; omega)]
  show (u, (numBytes u ++ rest).drop (sizeN u), (0 : Int)) = _
  rw [← numBytes_size, List.drop_left]
end
section
section
open Go.RowKit
def st (zs : List Int) : ByteArray := ⟨(zs.map fun z => UInt8.ofNat z.toNat).toArray⟩
theorem st_size (zs : List Int) : (st zs).size = zs.length := by simp [st, ByteArray.size]
theorem st_append (xs ys : List Int) : st (xs ++ ys) = st xs ++ st ys := by
  apply ByteArray.ext
  simp [st, ByteArray.data_append]
theorem conv_any {w : World} {v : Value} {zs : List Int} {S : Nat → Prop} (h : BySl S w v zs) : (convert 26 9 v).run Tryz.prog w = .ok (.string (st zs)) w := by
  obtain ⟨hz, ⟨⟨a, cap, rfl⟩, rfl⟩ | ⟨blk, off, cap, rfl, hc, hm, hb, _⟩⟩ := h
  · cases a with
    | none =>
      rw [run_convert_bytes_string w 26 9 5 none 0 cap Tryz.underlying26 Tryz.underlying5 Tryz.underlying9]
      simp [Conv.bytesToString, go_sem, st]
      rfl
    | some a => exact run_convert_bytes_back (P := Tryz.prog) w 26 9 5 a cap [] Tryz.underlying26 Tryz.underlying5 Tryz.underlying9 (fun j hj => by simp at hj)
  · have := run_convert_bytes_back (P := Tryz.prog) w 26 9 5 ⟨blk, off, none⟩ cap (zs.map fun z => UInt8.ofNat z.toNat) Tryz.underlying26 Tryz.underlying5 Tryz.underlying9 (fun j hj => by
      have hj' : j < zs.length := by simpa using hj
      have e := hb j hj'
      have r := hz j
      rw [List.getElem?_eq_getElem hj'] at e r
      simp only [Option.getD_some] at e r
      have ea : Addr.add ⟨blk, off, none⟩ j = ⟨blk, off + j, none⟩ := by unfold Addr.add; split <;> simp_all
      rw [ea, e]
      congr 2
      simp only [List.getElem_map, UInt8.toNat_ofNat']
      omega)
    rw [List.length_map] at this
    exact this
end
section
open Go.RowKit
theorem st_list (xs : List Int) : (st xs).toList = xs.map fun z => UInt8.ofNat z.toNat := ByteArray.toList_mk _
theorem byte_eq (a b : Int) (ha : 0 ≤ a ∧ a < 256) (hb : 0 ≤ b ∧ b < 256) : (UInt8.ofNat a.toNat = UInt8.ofNat b.toNat) ↔ a = b := by
  rw [← UInt8.toNat_inj, UInt8.toNat_ofNat', UInt8.toNat_ofNat']
  omega
theorem map_eq : ∀ (xs ys : List Int), IsBytes xs → IsBytes ys → (xs.map (fun z => UInt8.ofNat z.toNat) = ys.map (fun z => UInt8.ofNat z.toNat)) → xs = ys
  | [], [], _, _, _ => rfl
  | [], _ :: _, _, _, h => by simp at h
  | _ :: _, [], _, _, h => by simp at h
  | a :: x, b :: y, hx, hy, h => by
    rw [List.map_cons, List.map_cons, List.cons.injEq] at h
    rw [(byte_eq a b hx.head hy.head).1 h.1, map_eq x y hx.tail hy.tail h.2]
theorem st_beq (xs ys : List Int) (hx : IsBytes xs) (hy : IsBytes ys) : ((st xs).toList == (st ys).toList) = decide (xs = ys) := by
  rw [st_list, st_list]
  by_cases h : xs = ys
  · subst h; simp
  · rw [decide_eq_false h, beq_eq_false_iff_ne]
    exact fun e => h (map_eq xs ys hx hy e)
end
section
open Go.RowKit
end
section
open Go.RowKit
theorem idx_any (zs : List Int) (w : World) (hz : IsBytes zs) (i : Nat) (hi : i < zs.length) :
    (Instr.index 9 (.string (st zs)) (.int .i64 i)).run Tryz.prog w = .ok (.int .u8 (zs[i]?.getD 0)) w := by
  rw [run_index_string (P := Tryz.prog) w 9 (st zs) .i64 i Tryz.underlying9, dif_pos ⟨by omega, by rw [st_size]; omega⟩]
  have h := hz i
  have e : ((st zs)[(i : Int).toNat]'(by rw [st_size]; omega)) = UInt8.ofNat (zs[i]?.getD 0).toNat := by
    show ((zs.map fun z => UInt8.ofNat z.toNat).toArray)[(i : Int).toNat]'_ = _
    rw [List.getElem?_eq_getElem hi]
    simp
  rw [e]
  congr 2
  rw [UInt8.toNat_ofNat']
  omega
theorem conv_one (w : World) (x : Int) (h0 : 0 ≤ x) (h1 : x < 256) :
    (convert 26 9 (.slice (some ⟨w.heap.size, 0, none⟩) 1 1)).run Tryz.prog (w.alloc (.cells #[.int .u8 x] 5)) = .ok (.string (st [x])) (w.alloc (.cells #[.int .u8 x] 5)) :=
  conv_any (BySl.lit w 5 [x] (by simpa using ⟨h0, h1⟩) (by show 1 ≤ maxLen; decide) Nb (fun h => h))
end
section
open Go.RowKit
end
section
open Go.RowKit
end
section
open Go.RowKit
end
end
section
open Go.RowKit
theorem rightC_bad {c : List RunQ} {k : Nat} (hk : k < c.length) (h : goodR (runAt c k) = false ∨ (0 < k ∧ gapB (runAt c (k - 1)) (runAt c k) = false)) : rightC c = false := by
  rw [Bool.eq_false_iff]
  intro hr
  have := rightC_of.1 hr k hk
  rcases h with h | ⟨h0, h⟩
  · rw [h] at this; cases this.1
  · have h2 := this.2 h0
    rw [h] at h2
    cases h2
def RrR (w : World) (c : List RunQ) (i : Value) (wr : World) : Prop := ∃ k : Nat, k ≤ c.length ∧ i = .int .i64 k ∧ Hid (∀ j, j < k → goodR (runAt c j) = true ∧ (0 < j → gapB (runAt c (j - 1)) (runAt c j) = true)) ∧ Hid (Kp Nb w wr)
set_option maxRecDepth 100000 in
set_option maxHeartbeats 8000000 in
theorem rright_any (v : Value) (c : List RunQ) (w : World) (hs : ClSl w v c) (hl : c.length ≤ 1000000) :
    Calls Tryz.prog 38 #[v] w fun e w' => e = .returned (.bool (rightC c)) ∧ Kp Nb w w' := by
  obtain ⟨pv, dv, rfl⟩ := hs.shape
  obtain ⟨L, hL⟩ : ∃ L, c.length = L := ⟨_, rfl⟩
  have HLE := hid hL
  rw [hL] at hs hl ⊢
  have HS := hid hs
  have hLb := hl
  obtain ⟨R, hR⟩ : ∃ b, rightC c = b := ⟨_, rfl⟩
  have HRR := hid hR
  rw [hR]
  clear hs hL hl hR
  go_enter Tryz.func38, Tryz.ntmps38
  go_wp2_with fail
  go_loopw [7] (RrR w c) (fun i _ => L - (intOf i).toNat)
  case atStart => exact ⟨0, Nat.zero_le _, rfl, hid (fun j hj => by omega), hid (Kp.refl _ _)⟩
  case round =>
    obtain ⟨k, hk, rfl, HJ, HK⟩ := hrel
    rw [HLE.out] at hk
    by_cases hlt : k < L
    · obtain ⟨blk, off, cap, e1, hc, hm, hcell⟩ := cl_shape (HS.out.kept HK.out) (by intro h; have := HLE.out; rw [h, List.length_nil] at this; omega)
      rw [HLE.out] at e1 hc hcell
      injection e1 with e1 _ e2
      subst e1 e2
      have HR := hid (hcell k hlt)
      obtain ⟨⟨qn, qf, qt⟩, hq⟩ : ∃ q, runAt c k = q := ⟨_, rfl⟩
      have HOK := HS.out.1 k
      rw [hq] at HR HOK
      have HQ := hid hq
      obtain ⟨M, hM⟩ : ∃ M, wr.heap.size = M := ⟨_, rfl⟩
      obtain ⟨W2, hW2⟩ : ∃ W, W = (wr.alloc (.cells (runL (0, 0, 0)).toArray 38)).setCells M 0 (runL (qn, qf, qt)) := ⟨_, rfl⟩
      have hz := Blk.new wr 38 (runL (0, 0, 0))
      rw [hM] at hz
      have KW : Hid (Kp Nb wr W2) := hid (by rw [hW2]; exact Kp.setCells (fun h => absurd h (by omega)) _ 0 _ ((Kp.refl Nb wr).alloc _))
      have HMW : Hid (wr.heap.size = M) := hid hM
      have TH := hid (run_there (q := (qn, qf, qt)) hz)
      have HZ : Hid (Blk W2 M 38 (runL (qn, qf, qt))) := hid (by rw [hW2]; exact row_set hz rfl)
      have HK2 := hid (HK.out.trans KW.out (fun _ _ h => h))
      unfold maxLen at hm
      obtain ⟨fs, hfs⟩ := under_run
      clear hz hcell hq
      go_upto_region 4 with (first
        | (refine wpList_load_mid (by rfl) 38 (.tmp 10) (by rfl) blk (off + k * 3) (by rfl) (runL (qn, qf, qt)) _ HR.out hfs rfl (run_infoL (qn, qf, qt)) ?_)
        | (refine wpList_store_mid (by rfl) 38 (.tmp 4) (.tmp 11) (by rfl) M 0 (runL (qn, qf, qt)).toArray (by rfl) (by rfl) TH.out (run_infoA (qn, qf, qt)) (run_one (qn, qf, qt)) ?_))
      rw [show (wr.alloc (.cells #[.int .i64 0, .int .i64 0, .int .i64 0] 38)).setCells M 0 (runL (qn, qf, qt)) = W2 from hW2.symm]
      clear hW2 TH hM
      have c0 : W2.cell? ⟨M, 0, none⟩ = some (.int .i64 qn) := HZ.out.cell 0
      have c1 : W2.cell? ⟨M, 1, none⟩ = some (.int .i64 qf) := HZ.out.cell 1
      have c2 : W2.cell? ⟨M, 2, none⟩ = some (.int .i64 qt) := HZ.out.cell 2
      have HC : Hid (k < c.length) := hid (by rw [HLE.out]; exact hlt)
      have HSK := hid (HS.out.kept HK2.out)
      have HBAD : Hid (goodR (qn, qf, qt) = false → R = false) := hid (fun h => by rw [← HRR.out]; exact rightC_bad HC.out (.inl (by rw [HQ.out]; exact h)))
      clear HK KW HMW HR
      by_cases g0 : qn < 0
      · have HF : R = false := HBAD.out (by unfold goodR; exact decide_eq_false (by dsimp only; omega))
        subst HF
        go_wp2
        go_ret
        exact ⟨rfl, HK2.out⟩
      by_cases g1 : 7 < qn
      · have HF : R = false := HBAD.out (by unfold goodR; exact decide_eq_false (by dsimp only; omega))
        subst HF
        go_wp2
        go_ret
        exact ⟨rfl, HK2.out⟩
      by_cases g2 : qf < 1
      · have HF : R = false := HBAD.out (by unfold goodR; exact decide_eq_false (by dsimp only; omega))
        subst HF
        go_wp2
        go_ret
        exact ⟨rfl, HK2.out⟩
      by_cases g3 : qt < qf
      · have HF : R = false := HBAD.out (by unfold goodR; exact decide_eq_false (by dsimp only; omega))
        subst HF
        go_wp2
        go_ret
        exact ⟨rfl, HK2.out⟩
      by_cases g4 : 1099511627776 < qt
      · have HF : R = false := HBAD.out (by unfold goodR; exact decide_eq_false (by dsimp only; omega))
        subst HF
        go_wp2
        go_ret
        exact ⟨rfl, HK2.out⟩
      have HGD : Hid (goodR (qn, qf, qt) = true) := hid (goodR_of.2 (by dsimp only; omega))
      by_cases hk0 : k = 0
      · subst hk0
        have HJN : Hid (∀ j, j < 0 + 1 → goodR (runAt c j) = true ∧ (0 < j → gapB (runAt c (j - 1)) (runAt c j) = true)) := hid (fun j hj => by
          obtain rfl : j = 0 := by omega
          exact ⟨by rw [HQ.out]; exact HGD.out, fun h => by omega⟩)
        go_wp2_with fail
        go_quiet (fail)
        have HK2 := hid (HK2.out.drewN nq)
        go_wp2
        go_roundw
        case rel => exact ⟨0 + 1, by rw [HLE.out]; omega, by go_num, HJN, HK2⟩
        case measure => simp [intOf]; omega
      · obtain ⟨q, rfl⟩ : ∃ q, k = q + 1 := ⟨k - 1, by omega⟩
        obtain ⟨⟨pn, pf, pt⟩, hp⟩ : ∃ x, runAt c q = x := ⟨_, rfl⟩
        have HP := hid hp
        have hgp := (HJ.out q (by omega)).1
        rw [hp] at hgp
        have gp := goodR_of.1 hgp
        dsimp only at gp
        obtain ⟨blk2, off2, cap2, e3, hc3, hm3, hcell2⟩ := cl_shape HSK.out (by intro h; have := HLE.out; rw [h, List.length_nil] at this; omega)
        rw [HLE.out] at e3 hc3 hcell2
        injection e3 with e3 _ e4
        injection e3 with e3
        injection e3 with e3 e5
        subst e3 e4 e5
        have hrp := hcell2 q (by omega)
        rw [hp] at hrp
        have e0 : W2.cell? ⟨blk, off + q * 3 + 0, none⟩ = some (.int .i64 pn) := hrp 0 _ rfl
        have e2 : W2.cell? ⟨blk, off + q * 3 + 2, none⟩ = some (.int .i64 pt) := hrp 2 _ rfl
        rw [Nat.add_zero] at e0
        have w1 : IntKind.i64.wrap ((q : Int) + 1 - 1) = (q : Int) := by rw [show (q : Int) + 1 - 1 = (q : Int) by omega]; exact IntWalk.i64_in _ (by omega)
        have hqL : q < L := by omega
        have w3 : IntKind.i64.wrap (q : Int) = (q : Int) := IntWalk.i64_in _ (by omega)
        have w2 : IntKind.i64.wrap (pt + 2) = pt + 2 := IntWalk.i64_in _ (by omega)
        have HGP : Hid (∀ b, gapB (pn, pf, pt) (qn, qf, qt) = b → gapB (runAt c (q + 1 - 1)) (runAt c (q + 1)) = b) := hid (fun b h => by rw [HQ.out, Nat.add_sub_cancel, HP.out]; exact h)
        have HBG : Hid (gapB (pn, pf, pt) (qn, qf, qt) = false → R = false) := hid (fun h => by rw [← HRR.out]; exact rightC_bad HC.out (.inr ⟨by omega, HGP.out _ h⟩))
        have HJN : Hid (gapB (pn, pf, pt) (qn, qf, qt) = true → ∀ j, j < q + 1 + 1 → goodR (runAt c j) = true ∧ (0 < j → gapB (runAt c (j - 1)) (runAt c j) = true)) := hid (fun h j hj => by
          rcases Nat.lt_or_ge j (q + 1) with h2 | h2
          · exact HJ.out j h2
          · obtain rfl : j = q + 1 := by omega
            exact ⟨by rw [HQ.out]; exact HGD.out, fun _ => HGP.out _ h⟩)
        clear hp hgp hrp hcell2 hm3 hc3 HGP HBAD
        by_cases h1 : qn < pn
        · have HF : R = false := HBG.out (by unfold gapB; simp [h1])
          subst HF
          go_wp2_with fail
          go_quiet (fail)
          have HK2 := hid (HK2.out.drewN nq)
          go_wp2
          go_ret
          exact ⟨rfl, HK2.out⟩
        · by_cases h2 : pn = qn
          · subst h2
            by_cases h3 : qf < pt + 2
            · have HF : R = false := HBG.out (by unfold gapB; simp [h3])
              subst HF
              go_wp2_with fail
              go_quiet (fail)
              have HK2 := hid (HK2.out.drewN nq)
              go_wp2
              go_ret
              exact ⟨rfl, HK2.out⟩
            · have HX := hid (HJN.out (by unfold gapB; simp [h3]))
              go_wp2_with fail
              go_quiet (fail)
              have HK2 := hid (HK2.out.drewN nq)
              go_wp2
              go_roundw
              case rel => exact ⟨q + 1 + 1, by rw [HLE.out]; omega, by go_num, HX, HK2⟩
              case measure => simp [intOf]; omega
          · have h4 : (pn == qn) = false := beq_eq_false_iff_ne.2 h2
            have h5 : decide (qn < pn) = false := decide_eq_false h1
            have HX := hid (HJN.out (by unfold gapB; simp [h1]; omega))
            clear h1
            go_wp2_with fail
            go_quiet (fail)
            have HK2 := hid (HK2.out.drewN nq)
            go_wp2
            go_roundw
            case rel => exact ⟨q + 1 + 1, by rw [HLE.out]; omega, by go_num, HX, HK2⟩
            case measure => simp [intOf]; omega
    · obtain rfl : k = L := by omega
      have HF : R = true := by rw [← HRR.out]; exact rightC_of.2 (fun i hi => HJ.out i (by rw [← HLE.out]; exact hi))
      subst HF
      go_wp2
      go_ret
      exact ⟨rfl, HK.out⟩
end

end Go.Proofs.YtogoophofgkboaaGreatDoor
