/-
  Of the texts DtT, DtAv, DtK, EyeOn, DtL, PenMa, Rfk what is used. No condition but what each says.
-/
import Derived.Test.YtogoophofgkboaaGreatDoorRe
import Derived.Test.YtogoophofgkboaaGreatDoorRb
import Derived.Test.YtogoophofgkboaaGreatDoorRc
import Derived.Test.YtogoophofgkboaaGreatDoorRa
import Derived.Test.YtogoophofgkboaaGreatDoorProg
import Derived.Deep.DeepCutAuto
import Derived.Deep.RegionHeld3
import Derived.Laws.IdiomStrings
namespace Go.Proofs.YtogoophofgkboaaGreatDoor
section
open Go.RowKit
theorem splitK_join (c : UInt8) : ∀ (xs : List (List UInt8)) (x : List UInt8), c ∉ x → (∀ y ∈ xs, c ∉ y) → Lib.splitK [c] 0 xs.length (x ++ Lib.joinTail [c] xs) = x :: xs
  | [], x, _, _ => by unfold Lib.splitK Lib.joinTail; simp
  | y :: ys, x, hx, hy => by
    have e : x ++ Lib.joinTail [c] (y :: ys) = x ++ c :: (y ++ Lib.joinTail [c] ys) := by unfold Lib.joinTail; simp
    have hi : Lib.index (x ++ c :: (y ++ Lib.joinTail [c] ys)) [c] = (x.length : Int) := by rw [Lib.index_one]; exact indexByte_hit c _ x hx
    rw [e, List.length_cons]
    unfold Lib.splitK
    rw [hi]
    have h1 : ((x.length : Int) == -1) = false := by rw [beq_eq_false_iff_ne]; omega
    rw [h1, if_neg (by decide), Int.toNat_natCast, Nat.add_zero, List.take_left' rfl]
    have h2 : (x ++ c :: (y ++ Lib.joinTail [c] ys)).drop (x.length + [c].length) = y ++ Lib.joinTail [c] ys := by
      rw [show x ++ c :: (y ++ Lib.joinTail [c] ys) = (x ++ [c]) ++ (y ++ Lib.joinTail [c] ys) by simp]
      exact List.drop_left' (by simp)
    rw [h2, splitK_join c ys y (hy y (by simp)) (fun z hz => hy z (by simp [hz]))]
theorem count_join (c : UInt8) : ∀ (xs : List (List UInt8)), (∀ y ∈ xs, c ∉ y) → (Lib.joinTail [c] xs).count c = xs.length
  | [], _ => by simp [Lib.joinTail]
  | y :: ys, hy => by
    have ih := count_join c ys (fun z hz => hy z (by simp [hz]))
    have h1 : y.count c = 0 := List.count_eq_zero.2 (hy y (by simp))
    have e : Lib.joinTail [c] (y :: ys) = c :: (y ++ Lib.joinTail [c] ys) := by unfold Lib.joinTail; simp
    rw [e, List.count_cons_self, List.count_append, h1, ih, List.length_cons]
    omega
theorem split_join (c : UInt8) (x : List UInt8) (xs : List (List UInt8)) (h : ∀ y ∈ x :: xs, c ∉ y) :
    Lib.countB (bs (Lib.join (x :: xs) [c])) (bs [c]) = xs.length ∧ Lib.splitB (bs [c]) 0 xs.length (bs (Lib.join (x :: xs) [c])) = (x :: xs).map bs := by
  have hx := h x (by simp)
  have hxs : ∀ y ∈ xs, c ∉ y := fun y hy => h y (by simp [hy])
  rw [Lib.join_cons]
  constructor
  · show Lib.count (x ++ Lib.joinTail [c] xs) [c] = xs.length
    rw [Lib.count_one, List.count_append, count_join c xs hxs, List.count_eq_zero.2 hx]
    omega
  · have h1 := Lib.splitB_data (bs [c]) 0 xs.length (bs (x ++ Lib.joinTail [c] xs))
    have h2 : Lib.splitK (bs [c]).data.toList 0 xs.length (bs (x ++ Lib.joinTail [c] xs)).data.toList = x :: xs := splitK_join c xs x hx hxs
    rw [h2] at h1
    have h3 := congrArg (List.map bs) h1
    rw [List.map_map] at h3
    rw [← h3]
    have e : (bs ∘ fun (x : ByteArray) => x.data.toList) = id := by funext x; rfl
    rw [e, List.map_id]
theorem textR_no (q : RunQ) (h : goodR q = true) (c : UInt8) (hc : ¬ IsDig c) (h1 : c ≠ 58) (h2 : c ≠ 45) : c ∉ textR q := by
  have g := goodR_of.1 h
  intro hm
  unfold textR at hm
  have d1 := not_dig hc (itoa_digs q.1 (by omega))
  have d2 := not_dig hc (itoa_digs q.2.1 (by omega))
  have d3 := not_dig hc (itoa_digs q.2.2 (by omega))
  rcases List.mem_append.1 hm with hm | hm
  · rcases List.mem_append.1 hm with hm | hm
    · rcases List.mem_append.1 hm with hm | hm
      · exact d1 hm
      · exact h1 (List.mem_singleton.1 hm)
    · exact d2 hm
  · split at hm
    · rcases List.mem_append.1 hm with hm | hm
      · exact h2 (List.mem_singleton.1 hm)
      · exact d3 hm
    · cases hm
theorem textC_split {c : List RunQ} (hr : rightC c = true) (h0 : c.length ≠ 0) :
    Lib.countB (bs (textC c)) (bs [32]) + 1 = c.length ∧ (Lib.splitB (bs [32]) 0 (Lib.countB (bs (textC c)) (bs [32])) (bs (textC c))).map Value.string = c.map txV := by
  have e : textC c = Lib.join (c.map textR) [32] := by unfold textC; rw [hr, if_neg h0]; rfl
  have hg := right_good hr
  rw [e]
  cases c with
  | nil => exact (h0 rfl).elim
  | cons q c =>
    rw [List.map_cons]
    obtain ⟨h1, h2⟩ := split_join 32 (textR q) (c.map textR) (fun y hy => by
      rcases List.mem_cons.1 hy with rfl | hy
      · exact textR_no q (hg q (by simp)) 32 (by decide) (by decide) (by decide)
      · obtain ⟨z, hz, rfl⟩ := List.mem_map.1 hy
        exact textR_no z (hg z (by simp [hz])) 32 (by decide) (by decide) (by decide))
    rw [h1, h2]
    refine ⟨by rw [List.length_map, List.length_cons], ?_⟩
    rw [List.map_cons, List.map_cons, List.map_cons, List.map_map, List.map_map]
    rfl
theorem textC_ne {c : List RunQ} (hr : rightC c = true) (h0 : c.length ≠ 0) : bs (textC c) ≠ ⟨#[45]⟩ := by
  intro e
  have e2 : textC c = [45] := by have := congrArg (fun x : ByteArray => x.data.toList) e; exact this
  have e3 : textC c = Lib.join (c.map textR) [32] := by unfold textC; rw [hr, if_neg h0]; rfl
  rw [e3] at e2
  cases c with
  | nil => exact h0 rfl
  | cons q c =>
    rw [List.map_cons, Lib.join_cons] at e2
    have h : (58 : UInt8) ∈ textR q ++ Lib.joinTail [32] (c.map textR) := by unfold textR; simp
    rw [e2] at h
    revert h; decide
end
section
open Go.RowKit
def splF (c : UInt8) (p : List (List UInt8) × List UInt8) (b : UInt8) : List (List UInt8) × List UInt8 := if b = c then (p.1 ++ [p.2], []) else (p.1, p.2 ++ [b])
def splS (c : UInt8) (s : List UInt8) : List (List UInt8) × List UInt8 := s.foldl (splF c) ([], [])
def splL (c : UInt8) (s : List UInt8) : List (List UInt8) := (splS c s).1 ++ [(splS c s).2]
def jnL (c : UInt8) (d : List (List UInt8)) (u : List UInt8) : List UInt8 := d.flatMap (fun x => x ++ [c]) ++ u
theorem jn_fold (c : UInt8) : ∀ (s : List UInt8) (p : List (List UInt8) × List UInt8), jnL c (s.foldl (splF c) p).1 (s.foldl (splF c) p).2 = jnL c p.1 p.2 ++ s
  | [], p => by simp
  | b :: s, p => by
    rw [List.foldl_cons, jn_fold c s]
    unfold splF jnL
    by_cases h : b = c
    · rw [if_pos h]; simp [h]
    · rw [if_neg h]; simp
theorem jn_join (c : UInt8) : ∀ (d : List (List UInt8)) (u : List UInt8), Lib.join (d ++ [u]) [c] = jnL c d u
  | [], u => by rw [List.nil_append, Lib.join_cons]; unfold Lib.joinTail jnL; simp
  | x :: d, u => by
    rw [List.cons_append, Lib.join_cons]
    have ih := jn_join c d u
    cases d with
    | nil => unfold jnL; simp [Lib.joinTail]
    | cons y d =>
      rw [List.cons_append, Lib.join_cons] at ih
      rw [List.cons_append]
      have e : ∀ l : List (List UInt8), Lib.joinTail [c] (y :: l) = [c] ++ (y ++ Lib.joinTail [c] l) := fun l => by simp [Lib.joinTail]
      rw [e, ih]
      unfold jnL
      simp only [List.flatMap_cons, List.append_assoc]
theorem spl_join (c : UInt8) (s : List UInt8) : Lib.join (splL c s) [c] = s := by
  unfold splL
  rw [jn_join]
  unfold splS
  rw [jn_fold]
  rfl
theorem fold_no (c : UInt8) : ∀ (x : List UInt8) (p : List (List UInt8) × List UInt8), c ∉ x → x.foldl (splF c) p = (p.1, p.2 ++ x)
  | [], p, _ => by simp
  | b :: x, p, h => by
    rw [List.foldl_cons, fold_no c x _ (fun hm => h (List.mem_cons_of_mem _ hm))]
    have hb : b ≠ c := fun e => h (by rw [e]; exact List.mem_cons_self)
    unfold splF
    rw [if_neg hb]
    simp
theorem fold_tail (c : UInt8) : ∀ (xs : List (List UInt8)) (p : List (List UInt8) × List UInt8), (∀ y ∈ xs, c ∉ y) → ((Lib.joinTail [c] xs).foldl (splF c) p).1 ++ [((Lib.joinTail [c] xs).foldl (splF c) p).2] = p.1 ++ [p.2] ++ xs
  | [], p, _ => by simp [Lib.joinTail]
  | y :: ys, p, h => by
    have e : Lib.joinTail [c] (y :: ys) = c :: (y ++ Lib.joinTail [c] ys) := by unfold Lib.joinTail; simp
    rw [e, List.foldl_cons, List.foldl_append, fold_no c y _ (h y (by simp)), fold_tail c ys _ (fun z hz => h z (by simp [hz]))]
    unfold splF
    rw [if_pos rfl]
    simp
theorem spl_of (c : UInt8) (x : List UInt8) (xs : List (List UInt8)) (h : ∀ y ∈ x :: xs, c ∉ y) : splL c (Lib.join (x :: xs) [c]) = x :: xs := by
  rw [Lib.join_cons]
  unfold splL splS
  rw [List.foldl_append, fold_no c x _ (h x (by simp)), fold_tail c xs _ (fun y hy => h y (by simp [hy]))]
  simp
theorem spl_len (c : UInt8) : ∀ (s : List UInt8) (p : List (List UInt8) × List UInt8), (s.foldl (splF c) p).1.length ≤ p.1.length + s.length ∧ (s.foldl (splF c) p).2.length ≤ p.2.length + s.length
  | [], p => by simp
  | b :: s, p => by
    rw [List.foldl_cons]
    have ih := spl_len c s (splF c p b)
    have h1 : (splF c p b).1.length ≤ p.1.length + 1 ∧ (splF c p b).2.length ≤ p.2.length + 1 := by
      unfold splF
      split <;> simp
    rw [List.length_cons]
    omega
theorem splS_len (c : UInt8) (s : List UInt8) : (splS c s).1.length ≤ s.length ∧ (splS c s).2.length ≤ s.length := by
  have := spl_len c s ([], [])
  simp only [List.length_nil, Nat.zero_add] at this
  exact this
theorem mem_join (c : UInt8) (d : List (List UInt8)) (u : List UInt8) (x : List UInt8) (h : x ∈ d ++ [u]) : x.length ≤ (jnL c d u).length := by
  unfold jnL
  rw [List.length_append]
  rcases List.mem_append.1 h with h | h
  · have : x.length ≤ (d.flatMap (fun x => x ++ [c])).length := by
      rw [List.length_flatMap]
      obtain ⟨a, b, rfl⟩ := List.append_of_mem h
      rw [List.map_append, List.sum_append, List.map_cons, List.sum_cons, List.length_append]
      omega
    omega
  · rw [List.mem_singleton.1 h]; omega
theorem spl_mem {c : UInt8} {s x : List UInt8} (h : x ∈ splL c s) : x.length ≤ s.length := by
  have := mem_join c (splS c s).1 (splS c s).2 x h
  have e := jn_fold c s ([], [])
  unfold splS at this
  rw [e] at this
  exact this
def numT (s : List UInt8) : Option Nat := if s.length < 1 ∨ 18 < s.length ∨ (1 < s.length ∧ s[0]?.getD 0 = 48) then none else Lib.decFrom 0 s
theorem decFrom_snoc (s : List UInt8) (b : UInt8) : Lib.decFrom 0 (s ++ [b]) = (Lib.decFrom 0 s).bind fun n => (Lib.digitVal b).bind fun d => some (n * 10 + d) := by
  rw [decFrom_app]
  congr 1
  funext n
  simp only [Lib.decFrom]
  cases Lib.digitVal b <;> rfl
theorem digitVal_some {b : UInt8} {d : Nat} (h : Lib.digitVal b = some d) : d < 10 ∧ UInt8.ofNat (48 + d) = b := by
  unfold Lib.digitVal at h
  split at h
  · rename_i hb
    injection h with h
    refine ⟨by omega, ?_⟩
    apply UInt8.toNat_inj.1
    rw [UInt8.toNat_ofNat']
    omega
  · cases h
theorem snoc_of {α : Type} (l : List α) (h : l ≠ []) : ∃ t b, l = t ++ [b] := ⟨l.dropLast, l.getLast h, (List.dropLast_concat_getLast h).symm⟩
theorem dec_zero : Lib.decDigits 0 = [48] := by
  unfold Lib.decDigits
  rw [dif_pos (by decide)]
  rfl
theorem dec_of : ∀ (k : Nat) (s : List UInt8) (n : Nat), s.length = k → s ≠ [] → ¬ (1 < s.length ∧ s[0]?.getD 0 = 48) → Lib.decFrom 0 s = some n → Lib.decDigits n = s := by
  intro k
  induction k with
  | zero => intro s n hk h0 _ _; exact (h0 (List.length_eq_zero_iff.1 hk)).elim
  | succ k ih =>
    intro s n hk h0 hz hn
    obtain ⟨t, b, rfl⟩ := snoc_of s h0
    rw [List.length_append, List.length_singleton] at hk
    rw [decFrom_snoc] at hn
    cases hm : Lib.decFrom 0 t with
    | none => rw [hm] at hn; cases hn
    | some m =>
      rw [hm] at hn
      cases hd : Lib.digitVal b with
      | none => rw [hd] at hn; cases hn
      | some d =>
        rw [hd] at hn
        obtain ⟨d1, d2⟩ := digitVal_some hd
        simp only [Option.bind_some, Option.some.injEq] at hn
        by_cases ht : t = []
        · subst ht
          have : m = 0 := by simp [Lib.decFrom] at hm; omega
          subst this
          unfold Lib.decDigits
          rw [dif_pos (by omega), ← hn, ← d2]
          simp
        · have e := ih t m (by omega) ht (fun h => hz ⟨by rw [List.length_append]; omega, by rw [List.getElem?_append_left (by omega)]; exact h.2⟩) hm
          have hm0 : m ≠ 0 := by
            intro h
            subst h
            have e2 : t = [48] := by rw [← e]; exact dec_zero
            apply hz
            rw [e2]
            exact ⟨by simp, rfl⟩
          unfold Lib.decDigits
          rw [dif_neg (by omega)]
          have e1 : n / 10 = m := by omega
          have e2 : n % 10 = d := by omega
          rw [e1, e2, e, d2]
theorem dec_head : ∀ (n : Nat), 0 < n → (Lib.decDigits n)[0]?.getD 0 ≠ 48 := by
  intro n
  induction n using Nat.strongRecOn with
  | _ n ih =>
    intro h0
    unfold Lib.decDigits
    split
    · rename_i h
      simp only [List.getElem?_cons_zero, Option.getD_some]
      intro e
      have := congrArg UInt8.toNat e
      rw [dig_of n h] at this
      have e48 : (48 : UInt8).toNat = 48 := rfl
      omega
    · have hne := dec_ne (n / 10)
      rw [List.getElem?_append_left (by cases hl : Lib.decDigits (n / 10) with | nil => exact (hne hl).elim | cons a b => simp)]
      exact ih (n / 10) (by omega) (by omega)
theorem numT_itoa (n : Int) (h : 0 ≤ n) (h1 : n ≤ 1099511627776) : numT (Lib.itoa n) = some n.toNat := by
  have hl := itoa_short n h h1
  have hne := itoa_ne n h
  unfold numT
  rw [if_neg, itoa_pos n h, decFrom_dec]
  rintro (h2 | h2 | ⟨h2, h3⟩)
  · cases he : Lib.itoa n with
    | nil => exact hne he
    | cons a b => rw [he, List.length_cons] at h2; omega
  · omega
  · rw [itoa_pos n h] at h2 h3
    by_cases hz : 0 < n.toNat
    · exact dec_head _ hz h3
    · have : n.toNat = 0 := by omega
      rw [this] at h2
      have e : (Lib.decDigits 0).length = 1 := by rw [dec_zero]; rfl
      omega
theorem numT_text {s : List UInt8} {n : Nat} (h : numT s = some n) : Lib.itoa (n : Int) = s := by
  unfold numT at h
  split at h
  · cases h
  · rename_i hc
    rw [itoa_pos _ (by omega), Int.toNat_natCast]
    exact dec_of _ s n rfl (fun e => hc (.inl (by rw [e]; decide))) (fun e => hc (.inr (.inr e))) h
def prsQ : List (List UInt8) → Nat → Option RunQ
  | [q0], a => (numT q0).bind fun b => some ((a : Int), (b : Int), (b : Int))
  | [q0, q1], a => (numT q0).bind fun b => (numT q1).bind fun t => if t = b then none else some ((a : Int), (b : Int), (t : Int))
  | _, _ => none
def prsR (w : List UInt8) : Option RunQ :=
  match splL 58 w with
  | [p0, p1] => (numT p0).bind fun a => prsQ (splL 45 p1) a
  | _ => none
def prsL : List (List UInt8) → Option (List RunQ)
  | [] => some []
  | w :: ws => (prsR w).bind fun r => (prsL ws).map (r :: ·)
def parT (s : List UInt8) : Option (List RunQ) := if s = [45] then some [] else (prsL (splL 32 s)).bind fun c => if rightC c then some c else none
theorem prsL_len : ∀ (ws : List (List UInt8)) (c : List RunQ), prsL ws = some c → c.length = ws.length := by
  intro ws
  induction ws with
  | nil => intro c h; simp only [prsL, Option.some.injEq] at h; rw [← h]; rfl
  | cons x ws ih =>
    intro c h
    simp only [prsL] at h
    cases hx : prsR x with
    | none => rw [hx] at h; cases h
    | some r =>
      cases hws : prsL ws with
      | none => rw [hx, hws] at h; cases h
      | some c' =>
        rw [hx, hws] at h
        simp only [Option.bind_some, Option.map_some, Option.some.injEq] at h
        rw [← h, List.length_cons, List.length_cons, ih c' hws]
theorem join_two (c : UInt8) (x y : List UInt8) : Lib.join [x, y] [c] = x ++ [c] ++ y := by rw [Lib.join_cons]; simp [Lib.joinTail]
theorem join_one (c : UInt8) (x : List UInt8) : Lib.join [x] [c] = x := by rw [Lib.join_cons]; simp [Lib.joinTail]
theorem prsR_text {w : List UInt8} {r : RunQ} (h : prsR w = some r) (hg : r.2.1 ≤ r.2.2) : textR r = w := by
  unfold prsR at h
  split at h
  · rename_i p0 p1 hp
    have ew := spl_join 58 w
    rw [hp, join_two] at ew
    cases ha : numT p0 with
    | none => rw [ha] at h; cases h
    | some a =>
      rw [ha, Option.bind_some] at h
      have ea := numT_text ha
      have eq := spl_join 45 p1
      obtain ⟨Q, hq⟩ : ∃ Q, splL 45 p1 = Q := ⟨_, rfl⟩
      rw [hq] at h eq
      rcases Q with _ | ⟨q0, _ | ⟨q1, _ | ⟨q2, R⟩⟩⟩
      · simp [prsQ] at h
      · dsimp only [prsQ] at h
        cases hb : numT q0 with
        | none => rw [hb] at h; cases h
        | some b =>
          rw [hb, Option.bind_some] at h
          injection h with h
          have eb := numT_text hb
          rw [join_one] at eq
          subst h
          unfold textR
          dsimp only
          rw [if_neg (by omega), ea, eb, eq, List.append_nil, ew]
      · dsimp only [prsQ] at h
        rw [join_two] at eq
        cases hb : numT q0 with
        | none => rw [hb] at h; cases h
        | some b =>
          rw [hb, Option.bind_some] at h
          cases ht : numT q1 with
          | none => rw [ht] at h; cases h
          | some t =>
            rw [ht, Option.bind_some] at h
            split at h
            · cases h
            · rename_i hne
              injection h with h
              have eb := numT_text hb
              have et := numT_text ht
              subst h
              dsimp only at hg
              unfold textR
              dsimp only
              rw [if_pos (by omega), ea, eb, et, ← ew, ← eq]
              simp only [List.append_assoc]
      · simp [prsQ] at h
  · cases h
theorem prsL_text : ∀ (ws : List (List UInt8)) (c : List RunQ), prsL ws = some c → (∀ r ∈ c, goodR r = true) → c.map textR = ws := by
  intro ws
  induction ws with
  | nil => intro c h _; simp only [prsL, Option.some.injEq] at h; rw [← h]; rfl
  | cons x ws ih =>
    intro c h hg
    simp only [prsL] at h
    cases hx : prsR x with
    | none => rw [hx] at h; cases h
    | some r =>
      cases hws : prsL ws with
      | none => rw [hx, hws] at h; cases h
      | some c' =>
        rw [hx, hws] at h
        simp only [Option.bind_some, Option.map_some, Option.some.injEq] at h
        subst h
        have g := goodR_of.1 (hg r (by simp))
        rw [List.map_cons, prsR_text hx (by omega), ih c' hws (fun q hq => hg q (by simp [hq]))]
theorem prsR_of (r : RunQ) (h : goodR r = true) : prsR (textR r) = some r := by
  have g := goodR_of.1 h
  have d1 := fun c (hc : ¬ IsDig c) => not_dig hc (itoa_digs r.1 (by omega))
  have d2 := fun c (hc : ¬ IsDig c) => not_dig hc (itoa_digs r.2.1 (by omega))
  have d3 := fun c (hc : ¬ IsDig c) => not_dig hc (itoa_digs r.2.2 (by omega))
  have hrest : (58 : UInt8) ∉ restR r := by
    intro hm
    unfold restR at hm
    rcases List.mem_append.1 hm with hm | hm
    · exact d2 58 (by decide) hm
    · split at hm
      · rcases List.mem_append.1 hm with hm | hm
        · exact absurd (List.mem_singleton.1 hm) (by decide)
        · exact d3 58 (by decide) hm
      · cases hm
  have e : textR r = Lib.join [Lib.itoa r.1, restR r] [58] := by rw [join_two]; unfold textR restR; simp only [List.append_assoc]
  unfold prsR
  rw [e, spl_of 58 _ _ (by
    intro y hy
    simp only [List.mem_cons, List.not_mem_nil, or_false] at hy
    rcases hy with rfl | rfl
    · exact d1 58 (by decide)
    · exact hrest)]
  dsimp only
  rw [numT_itoa r.1 (by omega) (by omega), Option.bind_some]
  obtain ⟨rn, rf, rt⟩ := r
  dsimp only at g d1 d2 d3 ⊢
  by_cases hlt : rf < rt
  · have e2 : restR (rn, rf, rt) = Lib.join [Lib.itoa rf, Lib.itoa rt] [45] := by rw [join_two]; unfold restR; dsimp only; rw [if_pos hlt]; simp only [List.append_assoc]
    rw [e2, spl_of 45 _ _ (by
      intro y hy
      simp only [List.mem_cons, List.not_mem_nil, or_false] at hy
      rcases hy with rfl | rfl
      · exact d2 45 (by decide)
      · exact d3 45 (by decide))]
    dsimp only [prsQ]
    rw [numT_itoa rf (by omega) (by omega), Option.bind_some, numT_itoa rt (by omega) (by omega), Option.bind_some, if_neg (by omega), Int.toNat_of_nonneg (by omega), Int.toNat_of_nonneg (by omega), Int.toNat_of_nonneg (by omega)]
  · have e2 : restR (rn, rf, rt) = Lib.join [Lib.itoa rf] [45] := by rw [join_one]; unfold restR; dsimp only; rw [if_neg hlt, List.append_nil]
    rw [e2, spl_of 45 _ _ (by
      intro y hy
      simp only [List.mem_cons, List.not_mem_nil, or_false] at hy
      rw [hy]
      exact d2 45 (by decide))]
    dsimp only [prsQ]
    rw [numT_itoa rf (by omega) (by omega), Option.bind_some, Int.toNat_of_nonneg (by omega), Int.toNat_of_nonneg (by omega), show rf = rt by omega]
theorem prsL_of : ∀ (c : List RunQ), (∀ r ∈ c, goodR r = true) → prsL (c.map textR) = some c
  | [], _ => rfl
  | r :: c, h => by
    rw [List.map_cons]
    simp only [prsL]
    rw [prsR_of r (h r (by simp)), prsL_of c (fun q hq => h q (by simp [hq]))]
    rfl
theorem parT_iff (s : List UInt8) (c : List RunQ) : parT s = some c ↔ rightC c = true ∧ textC c = s := by
  unfold parT
  constructor
  · intro h
    split at h
    · rename_i hs
      injection h with h
      subst h
      exact ⟨rfl, by rw [hs]; rfl⟩
    · cases hp : prsL (splL 32 s) with
      | none => rw [hp] at h; cases h
      | some c' =>
        rw [hp, Option.bind_some] at h
        split at h
        · rename_i hr
          injection h with h
          subst h
          refine ⟨hr, ?_⟩
          have hl := prsL_len _ _ hp
          have h0 : c'.length ≠ 0 := by rw [hl]; unfold splL; simp
          unfold textC
          rw [if_pos hr, if_neg h0, prsL_text _ _ hp (right_good hr), spl_join]
        · cases h
  · rintro ⟨hr, rfl⟩
    by_cases h0 : c.length = 0
    · rw [List.length_eq_zero_iff.1 h0]; rfl
    · have hne : textC c ≠ [45] := fun e => textC_ne hr h0 (by rw [e])
      have e : textC c = Lib.join (c.map textR) [32] := by unfold textC; rw [if_pos hr, if_neg h0]
      have hg := right_good hr
      rw [if_neg hne, e]
      have hs : splL 32 (Lib.join (c.map textR) [32]) = c.map textR := by
        cases c with
        | nil => exact (h0 rfl).elim
        | cons q c =>
          rw [List.map_cons]
          exact spl_of 32 _ _ (fun y hy => by
            rw [← List.map_cons] at hy
            obtain ⟨z, hz, rfl⟩ := List.mem_map.1 hy
            exact textR_no z (hg z hz) 32 (by decide) (by decide) (by decide))
      rw [hs, prsL_of c hg, Option.bind_some, if_pos hr]
theorem parT_len {s : List UInt8} {c : List RunQ} (h : parT s = some c) : c.length ≤ s.length := by
  obtain ⟨hr, rfl⟩ := (parT_iff s c).1 h
  by_cases h0 : c.length = 0
  · omega
  · have e : textC c = Lib.join (c.map textR) [32] := by unfold textC; rw [if_pos hr, if_neg h0]
    rw [e]
    have hl : ∀ (xs : List (List UInt8)), xs.length ≤ (Lib.joinTail [32] xs).length := by
      intro xs
      induction xs with
      | nil => simp [Lib.joinTail]
      | cons x xs ih =>
        have e : Lib.joinTail [32] (x :: xs) = [32] ++ (x ++ Lib.joinTail [32] xs) := by simp [Lib.joinTail]
        rw [e, List.length_append, List.length_append, List.length_cons, List.length_singleton]
        omega
    cases c with
    | nil => exact (h0 rfl).elim
    | cons q c =>
      rw [List.map_cons, Lib.join_cons, List.length_append, List.length_cons]
      have h1 := hl (c.map textR)
      rw [List.length_map] at h1
      have h2 : 1 ≤ (textR q).length := by unfold textR; simp only [List.length_append, List.length_singleton]; omega
      omega
end
section
open Go.RowKit
def bytesR (q : RunQ) : List Int := numBytes q.1 ++ numBytes q.2.1 ++ numBytes (q.2.2 - q.2.1)
def runsB (c : List RunQ) : List Int := c.flatMap bytesR
def bytesC (c : List RunQ) : List Int := numBytes (c.length : Int) ++ runsB c
theorem runsB_snoc (c : List RunQ) (k : Nat) (hk : k < c.length) : runsB (c.take (k + 1)) = runsB (c.take k) ++ bytesR (runAt c k) := by
  unfold runsB
  rw [take_snocR c k hk, List.flatMap_append]
  simp
theorem runsB_len : ∀ (c : List RunQ), (∀ q ∈ c, goodR q = true) → (runsB c).length ≤ c.length * 27
  | [], _ => by simp [runsB]
  | q :: c, h => by
    have ih := runsB_len c (fun x hx => h x (by simp [hx]))
    have g := goodR_of.1 (h q (by simp))
    have h1 := numBytes_length q.1 (by omega)
    have h2 := numBytes_length q.2.1 (by omega)
    have h3 := numBytes_length (q.2.2 - q.2.1) (by omega)
    have h4 : (bytesR q).length ≤ 27 := by unfold bytesR; rw [List.length_append, List.length_append]; omega
    unfold runsB at ih ⊢
    rw [List.flatMap_cons, List.length_append, List.length_cons]
    omega
theorem ClSl.keptV {S : Nat → Prop} {w w' : World} {v : Value} {c : List RunQ} (h : ClSl w v c) (k : Kp S w w') (hS : ∀ g, v.ownBlock = some g → ¬ S g) : ClSl w' v c := by
  refine ⟨h.1, ?_⟩
  rcases h.2 with h | ⟨blk, off, cap, rfl, hc, hm, hr⟩
  · exact .inl h
  · exact .inr ⟨blk, off, cap, rfl, hc, hm, fun i hi j u hu => k.cell (hr i hi j u hu) (hS blk rfl)⟩
theorem PenTo.kpNb {a b c : World} {P : Nat} {v v' : Value} (h : PenTo a b P v v') (k : Kp Nb b c) : PenTo a c P v v' := ⟨h.kp.trans k (fun _ _ h => h.elim), h.at'⟩
theorem PenTo.box {a b : World} {P M : Nat} {t : TypeId} {v v' : Value} {vs : List Value} (h : PenTo a b P v v') (hb : Blk a M t vs) (hP : M ≠ P) (hv : v.ownBlock ≠ some M) : Blk b M t vs ∧ v'.ownBlock ≠ some M := by
  refine ⟨hb.kept h.kp (fun hp => hp.elim (fun e => hP e) (fun e => hv e)), ?_⟩
  rcases h.at' with e | e
  · rw [e]; exact hv
  · intro hg; have := e M hg; have := hb.lt; omega
theorem PenAt.own_lt {w : World} {B : Nat} {v : Value} {zs : List Int} (h : PenAt w B v zs) {g : Nat} (hg : v.ownBlock = some g) : g < w.heap.size := (h.own.lt g hg).2
/-- What Put answers. -/
def putB (c : List RunQ) : Bool := rightC c && decide (c.length ≤ 1024)
end
section
open Go.RowKit
def EyeOn (S : Nat → Prop) (w : World) (B : Nat) (zs : List Int) (e : Int) : Prop := ∃ v, Blk w B 92 [v, .int .i64 e] ∧ BySl S w v zs
theorem EyeOn.lt {S : Nat → Prop} {w : World} {B : Nat} {zs : List Int} {e : Int} (h : EyeOn S w B zs e) : B < w.heap.size := by obtain ⟨v, hb, _⟩ := h; exact hb.lt
theorem EyeOn.kept {S S' : Nat → Prop} {w w' : World} {B : Nat} {zs : List Int} {e : Int} (h : EyeOn S w B zs e) (k : Kp S' w w') (hB : ¬ S' B) (hS : ∀ i, S' i → S i) : EyeOn S w' B zs e := by
  obtain ⟨v, hb, hv⟩ := h
  exact ⟨v, hb.kept k hB, hv.kept k hS⟩
theorem EyeOn.drew {S : Nat → Prop} {w : World} {B : Nat} {zs : List Int} {e : Int} (h : EyeOn S w B zs e) : EyeOn S w.drew B zs e := h.kept ((Kp.refl Nb w).drew) (fun h => h) (fun _ h => h.elim)
/-- Of blocks that come later the bytes lie in none. -/
theorem EyeOn.of {w : World} {B : Nat} {zs : List Int} {e : Int} (h : EyeAt w B zs e) (N : Nat) (hN : w.heap.size ≤ N) : EyeOn (fun i => i = B ∨ N ≤ i) w B zs e := by
  obtain ⟨v, hb, hy, hv⟩ := h
  refine ⟨v, hb, hy, ?_⟩
  rcases hv with hv | ⟨blk, off, cap, rfl, hc, hm, hat, hS⟩
  · exact .inl hv
  · refine .inr ⟨blk, off, cap, rfl, hc, hm, hat, fun h0 hp => ?_⟩
    rcases hp with hp | hp
    · exact hS h0 hp
    · have := World.block_lt_of_cell? w _ (hat 0 h0)
      dsimp only at this
      omega
theorem EyeOn.at {S : Nat → Prop} {w : World} {B : Nat} {zs : List Int} {e : Int} (h : EyeOn S w B zs e) (hS : ∀ i, Jb B i → S i) : EyeAt w B zs e := by
  obtain ⟨v, hb, hy, hv⟩ := h
  refine ⟨v, hb, hy, ?_⟩
  rcases hv with hv | ⟨blk, off, cap, rfl, hc, hm, hat, h0⟩
  · exact .inl hv
  · exact .inr ⟨blk, off, cap, rfl, hc, hm, hat, fun h1 hp => h0 h1 (hS _ hp)⟩
set_option maxHeartbeats 400000 in
theorem err_on (B : Nat) (zs : List Int) (e : Int) (w : World) {S : Nat → Prop} (hS : ∀ i, Jb B i → S i) (h : EyeOn S w B zs e) :
    Calls Tryz.prog 31 #[.pointer (some ⟨B, 0, none⟩)] w fun r w' => r = .returned (.int .i64 e) ∧ w = w' := by
  have HS := hid hS
  clear hS
  obtain ⟨v, hb, -⟩ := h
  have c1 := hb.cell 1
  have c0 := hb.cell 0
  simp only [List.getElem?_cons_zero, List.getElem?_cons_succ] at c0 c1
  clear hb
  go_enter Tryz.func31, Tryz.ntmps31
  go_wp2
  go_ret
  exact ⟨rfl, rfl⟩
set_option maxHeartbeats 400000 in
theorem fail_on (B : Nat) (zs : List Int) (e f : Int) (w : World) {S : Nat → Prop} (hS : ∀ i, Jb B i → S i) (h : EyeOn S w B zs e) :
    Calls Tryz.prog 66 #[.pointer (some ⟨B, 0, none⟩), .int .i64 f] w fun r w' => r = .returned (.tuple #[]) ∧ EyeOn S w' B (failS zs e f) (failE e f) ∧ Kp (Jb B) w w' := by
  have HS := hid hS
  clear hS
  obtain ⟨v, hb, hv⟩ := h
  have c1 := hb.cell 1
  have c0 := hb.cell 0
  simp only [List.getElem?_cons_zero, List.getElem?_cons_succ] at c0 c1
  have f0 := hb.frozen 0
  have f1 := hb.frozen 1
  have HB := hid hb
  have HV := hid hv
  clear hb hv
  by_cases h0 : e = 0
  · by_cases h1 : f = 0
    · have HN := hid (show ¬ (e = 0 ∧ f ≠ 0) by omega)
      have g1 : (f != 0) = false := by rw [bne_eq_false_iff_eq]; exact h1
      subst h0
      go_enter Tryz.func66, Tryz.ntmps66
      go_wp2
      go_end0
      exact ⟨rfl, by simp only [failS, failE, ne_eq, not_true_eq_false, and_false, if_false]; exact ⟨v, HB.out, HV.out⟩, Kp.refl _ _⟩
    · have HN := hid (show (e = 0 ∧ f ≠ 0) from ⟨h0, h1⟩)
      have g1 : (f != 0) = true := by rw [bne_iff_ne]; exact h1
      subst h0
      go_enter Tryz.func66, Tryz.ntmps66
      go_wp2
      go_end0
      refine ⟨rfl, ?_, ((Kp.refl (Jb B) w).set 1 _).set 0 _⟩
      have hf := HN.out.2
      simp only [failS, failE, ne_eq, hf, not_false_eq_true, and_true, if_true]
      exact ⟨.slice none 0 0, (HB.out.set 1 (.int .i64 f)).set 0 (.slice none 0 0), fun i => by simp, .inl ⟨⟨none, 0, rfl⟩, rfl⟩⟩
  · have HN := hid (show ¬ (e = 0 ∧ f ≠ 0) by omega)
    have g1 : (e == 0) = false := by rw [beq_eq_false_iff_ne]; exact h0
    go_enter Tryz.func66, Tryz.ntmps66
    go_wp2
    go_end0
    exact ⟨rfl, by unfold failS failE; rw [if_neg HN.out, if_neg HN.out]; exact ⟨v, HB.out, HV.out⟩, Kp.refl _ _⟩
set_option maxRecDepth 100000 in
set_option maxHeartbeats 1000000 in
theorem number_on (B : Nat) (zs : List Int) (e most : Int) (w : World) {S : Nat → Prop} (hS : ∀ i, Jb B i → S i) (h : EyeOn S w B zs e) :
    Calls Tryz.prog 64 #[.pointer (some ⟨B, 0, none⟩), .int .u64 most] w fun r w' => r = .returned (.int .u64 (readN zs e most).1) ∧ EyeOn S w' B (readN zs e most).2.1 (readN zs e most).2.2 ∧ Kp (Jb B) w w' := by
  have HS := hid hS
  clear hS
  have H := hid h
  obtain ⟨v, hb, hv⟩ := h
  have c0 := hb.cell 0
  simp only [List.getElem?_cons_zero] at c0
  have f0 := hb.frozen 0
  have HB := hid hb
  have HV := hid hv
  clear hb hv
  obtain ⟨R, hR⟩ : ∃ R, R = readN zs e most := ⟨_, rfl⟩
  rw [← hR]
  have HR := hid hR
  clear hR
  unfold readN at HR
  by_cases he : e = 0
  · subst he
    have HR2 := HR.out.trans (if_neg (fun h => h rfl))
    have HR := hid HR2
    clear HR2
    have hok := firstOf_ok zs
    have HF : Hid (firstVal zs = .tuple #[.int .u64 (firstOf zs).1, .int .i64 (firstOf zs).2.1, .int .i64 (firstOf zs).2.2]) := (rfl : firstVal zs = firstVal zs)
    obtain ⟨⟨U, N, E⟩, hF⟩ : ∃ F, F = firstOf zs := ⟨_, rfl⟩
    rw [← hF] at HR hok HF
    clear hF
    simp only at HR hok HF
    go_enter Tryz.func64, Tryz.ntmps64
    go_wp2_with fail
    refine (err_on B zs 0 _ HS.out H.out).mono ?_
    rintro r w1 ⟨rfl, rfl⟩
    go_wp2_with fail
    refine (firstb_any v zs _ HV.out).mono ?_
    rintro r w1 ⟨rfl, rfl⟩
    rw [HF.out]
    by_cases hE : E = 0
    · subst hE
      have HR2 := HR.out.trans (if_neg (fun h => h rfl))
      by_cases hm : most < U
      · rw [if_pos hm] at HR2
        subst HR2
        clear HR hok
        go_wp2_with fail
        refine (fail_on B zs 0 12 _ HS.out H.out).mono ?_
        rintro r w2 ⟨rfl, h2, k2⟩
        have H2 := hid h2
        have K2 := hid k2
        clear h2 k2
        go_wp2
        go_ret
        exact ⟨rfl, H2.out, K2.out⟩
      · rw [if_neg hm] at HR2
        subst HR2
        clear HR
        have hN := hok rfl
        clear hok
        obtain ⟨xv, cv, hV1, hV2⟩ := HV.out.cutL N hN.2
        have HV2 := hid hV2
        clear hV2
        go_wp2
        go_ret
        refine ⟨rfl, ⟨_, HB.out.set 0 _, ?_⟩, (Kp.refl _ _).set 0 _⟩
        exact HV2.out.kept ((Kp.refl (Jb B) _).set 0 _) HS.out
    · have HR2 := HR.out
      rw [if_pos hE] at HR2
      subst HR2
      clear HR hok
      have g1 : (E == 0) = false := by rw [beq_eq_false_iff_ne]; exact hE
      have g2 : (E != 0) = true := by rw [bne_iff_ne]; exact hE
      have HE := hid hE
      clear hE
      go_wp2_with fail
      refine (fail_on B zs 0 E _ HS.out H.out).mono ?_
      rintro r w2 ⟨rfl, h2, k2⟩
      have e1 : failS zs 0 E = [] := by unfold failS; rw [if_pos ⟨rfl, HE.out⟩]
      have e2 : failE 0 E = E := by unfold failE; rw [if_pos ⟨rfl, HE.out⟩]
      rw [e1, e2] at h2
      have H2 := hid h2
      have K2 := hid k2
      clear h2 k2 e1 e2
      go_wp2
      go_ret
      exact ⟨rfl, H2.out, K2.out⟩
  · have HR2 := HR.out
    rw [if_pos he] at HR2
    subst HR2
    clear HR
    have g1 : (e != 0) = true := by rw [bne_iff_ne]; exact he
    clear he
    go_enter Tryz.func64, Tryz.ntmps64
    go_wp2_with fail
    refine (err_on B zs e _ HS.out H.out).mono ?_
    rintro r w1 ⟨rfl, rfl⟩
    go_wp2
    go_ret
    exact ⟨rfl, H.out, Kp.refl _ _⟩
end
section
open Go.RowKit Go.Shelf
attribute [local go_sem] Oper.semAt_some
theorem readN_okD (zs : List Int) (e most : Int) (hz : IsBytes zs) : IsBytes (readN zs e most).2.1 := by
  have hn : IsBytes [] := fun i => by simp
  unfold readN
  split
  · exact hz
  · split
    · exact hn
    · split
      · exact hn
      · exact hz.drop _
theorem readN_topD (zs : List Int) (e most : Int) (hz : IsBytes zs) (hm : 0 ≤ most) : 0 ≤ (readN zs e most).1 ∧ (readN zs e most).1 ≤ most := by
  have hr := readN_range zs e most hz
  refine ⟨hr.1, ?_⟩
  unfold readN
  split
  · exact hm
  · split
    · exact hm
    · split
      · exact hm
      · rename_i h
        show (firstOf zs).1 ≤ most
        omega
/-- One run read: what came, what is left, the error. -/
def rdA (z : List Int) (e : Int) : Int × List Int × Int := readN z e 7
def rdB (z : List Int) (e : Int) : Int × List Int × Int := readN (rdA z e).2.1 (rdA z e).2.2 1099511627776
def rdC (z : List Int) (e : Int) : Int × List Int × Int := readN (rdB z e).2.1 (rdB z e).2.2 1099511627776
def getLC : Nat → List Int → Int → List RunQ → Option (List RunQ) × List Int × Int
  | 0, z, e, acc => (some acc, z, e)
  | k + 1, z, e, acc => if (rdC z e).2.2 ≠ 0 then (none, (rdC z e).2.1, (rdC z e).2.2) else getLC k (rdC z e).2.1 (rdC z e).2.2 (acc ++ [((rdA z e).1, (rdB z e).1, (rdB z e).1 + (rdC z e).1)])
def finC : Option (List RunQ) × List Int × Int → List RunQ × List Int × Int
  | (none, z, e) => ([], z, e)
  | (some l, z, e) => if rightC l then (l, z, e) else ([], failS z e 11, failE e 11)
/-- A clock read. -/
def getC (zs : List Int) (e : Int) : List RunQ × List Int × Int := finC (getLC (readN zs e 1024).1.toNat (readN zs e 1024).2.1 (readN zs e 1024).2.2 [])
theorem eyeOn_bytes {S : Nat → Prop} {w : World} {B : Nat} {zs : List Int} {e : Int} (h : EyeOn S w B zs e) : IsBytes zs := by obtain ⟨v, hb, hv⟩ := h; exact hv.1
theorem ownsRow_kpJ {w w' : World} {base e size k B : Nat} {v : Value} {xs : List Value} (h : w.ownsRow base e size v k xs) (hk : Kp (Jb B) w w') (hB : B < base) : w'.ownsRow base e size v k xs :=
  ownsRow_same h (fun g hg => by obtain ⟨h1, o, ho, -⟩ := row_cells h hg; exact hk.heap (Array.getElem?_eq_some_iff.1 ho).1 (fun h => by have h' : g = B := h; omega))
theorem own_nil (w w' : World) : OwnV w (.slice none 0 0) w' := by intro g hg; simp [Value.ownBlock] at hg
def GtR (w : World) (S : Nat → Prop) (B : Nat) (n : Nat) (R : Option (List RunQ) × List Int × Int) (a u : Value) (wr : World) : Prop := ∃ (k : Nat) (out : List RunQ) (z : List Int) (e : Int), k ≤ n ∧ a = .int .i64 k ∧ Hid (EyeOn S wr B z e) ∧ Hid (wr.ownsRow w.heap.size 38 3 u out.length (flatR runL out)) ∧
  Hid (∀ q ∈ out, RunOk q) ∧ Hid (getLC (n - k) z e out = R) ∧ Hid (out.length ≤ k) ∧ Hid (Kp (Jb B) w wr)
end
section
open Go.RowKit
theorem bl_bounds : ∀ (f x : Nat), x < 2 ^ f → x ≠ 0 → 1 ≤ Lib.bitLenAux f x ∧ 2 ^ (Lib.bitLenAux f x - 1) ≤ x ∧ x < 2 ^ Lib.bitLenAux f x
  | 0, x, h, h0 => by simp at h; omega
  | f + 1, x, h, h0 => by
    unfold Lib.bitLenAux
    rw [if_neg h0]
    by_cases h2 : x / 2 = 0
    · have hx : x = 1 := by omega
      subst hx
      have e : Lib.bitLenAux f (1 / 2) = 0 := by
        cases f with
        | zero => rfl
        | succ f => unfold Lib.bitLenAux; rfl
      rw [e]
      decide
    · have ih := bl_bounds f (x / 2) (by rw [Nat.pow_succ] at h; omega) h2
      obtain ⟨i1, i2, i3⟩ := ih
      refine ⟨by omega, ?_, ?_⟩
      · have e : 1 + Lib.bitLenAux f (x / 2) - 1 = (Lib.bitLenAux f (x / 2) - 1) + 1 := by omega
        rw [e, Nat.pow_succ]
        omega
      · rw [Nat.add_comm, Nat.pow_succ]
        omega
theorem bitLen_bounds (x : Nat) (h : x < 18446744073709551616) (h0 : x ≠ 0) : 1 ≤ Lib.bitLen x ∧ 2 ^ (Lib.bitLen x - 1) ≤ x ∧ x < 2 ^ Lib.bitLen x := bl_bounds 64 x h h0
theorem kOf_bounds (u : Int) (h0 : 0 < u) (h1 : u < 18446744073709551616) : 1 ≤ kOf u ∧ (2 : Int) ^ (8 * (kOf u - 1)) ≤ u ∧ u < 2 ^ (8 * kOf u) := by
  obtain ⟨U, rfl⟩ := Int.eq_ofNat_of_zero_le (Int.le_of_lt h0)
  have hb := bitLen_bounds U (by omega) (by omega)
  unfold kOf
  rw [Int.toNat_natCast]
  obtain ⟨L, hL⟩ : ∃ L, L = Lib.bitLen U := ⟨_, rfl⟩
  rw [← hL] at hb ⊢
  obtain ⟨b1, b2, b3⟩ := hb
  have e1 : 2 ^ (8 * ((L + 7) / 8 - 1)) ≤ 2 ^ (L - 1) := Nat.pow_le_pow_right (by decide) (by omega)
  have e2 : 2 ^ L ≤ 2 ^ (8 * ((L + 7) / 8)) := Nat.pow_le_pow_right (by decide) (by omega)
  refine ⟨by omega, ?_, ?_⟩
  · have : (((2 ^ (8 * ((L + 7) / 8 - 1)) : Nat)) : Int) ≤ (U : Int) := by omega
    rw [Int.natCast_pow] at this
    exact this
  · have : (U : Int) < (((2 ^ (8 * ((L + 7) / 8)) : Nat)) : Int) := by omega
    rw [Int.natCast_pow] at this
    exact this
/-- A number of bytes, the greatest first. -/
def beN (xs : List Int) : Int := xs.foldl (fun a x => a * 256 + x) 0
theorem beN_snoc (xs : List Int) (x : Int) : beN (xs ++ [x]) = beN xs * 256 + x := by unfold beN; rw [List.foldl_append]; rfl
theorem beN_acc (xs : List Int) : ∀ a : Int, xs.foldl (fun a x => a * 256 + x) a = a * 256 ^ xs.length + beN xs := by
  induction xs with
  | nil => intro a; simp [beN]
  | cons x r ih =>
    intro a
    show r.foldl _ (a * 256 + x) = _
    have h2 : beN (x :: r) = (0 * 256 + x) * 256 ^ r.length + beN r := by show r.foldl _ (0 * 256 + x) = _; rw [ih]
    rw [ih, h2, List.length_cons, Int.pow_succ, Int.add_mul, Int.add_mul, Int.zero_mul, Int.zero_mul, Int.zero_add, Int.mul_comm (256 ^ r.length) 256, ← Int.mul_assoc]
    omega
theorem beN_cons (x : Int) (r : List Int) : beN (x :: r) = x * 256 ^ r.length + beN r := by
  show r.foldl _ (0 * 256 + x) = _
  rw [beN_acc, Int.zero_mul, Int.zero_add]
theorem beN_range (xs : List Int) (h : IsBytes xs) : 0 ≤ beN xs ∧ beN xs < 256 ^ xs.length := by
  induction xs with
  | nil => exact ⟨Int.le_refl _, by decide⟩
  | cons x r ih =>
    have i := ih h.tail
    have hx := h.head
    rw [beN_cons, List.length_cons, Int.pow_succ]
    have hp : (0 : Int) ≤ 256 ^ r.length := Int.pow_nonneg (by decide)
    obtain ⟨Q, hQ⟩ : ∃ Q : Int, Q = 256 ^ r.length := ⟨_, rfl⟩
    rw [← hQ] at i hp ⊢
    have e1 : 0 ≤ x * Q := Int.mul_nonneg hx.1 hp
    have e2 : x * Q ≤ 255 * Q := Int.mul_le_mul_of_nonneg_right (by omega) hp
    omega
theorem div_step (u : Int) (m : Nat) : u / 2 ^ (8 * (m + 1)) * 256 + u / 2 ^ (8 * m) % 256 = u / 2 ^ (8 * m) := by
  have e : (2 : Int) ^ (8 * (m + 1)) = 2 ^ (8 * m) * 256 := by rw [show 8 * (m + 1) = 8 * m + 8 from by omega, Int.pow_add]; rfl
  rw [e, ← Int.ediv_ediv_of_nonneg (Int.pow_nonneg (by decide))]
  omega
theorem digits_num (u : Int) (h0 : 0 ≤ u) (k : Nat) (hk : u < 2 ^ (8 * k)) : ∀ j, j ≤ k → beN (digits u k j) = u / 2 ^ (8 * (k - j))
  | 0, _ => by
    show (0 : Int) = _
    rw [Nat.sub_zero]
    exact (Int.ediv_eq_zero_of_lt h0 hk).symm
  | j + 1, hj => by
    rw [digits_succ, beN_snoc, digits_num u h0 k hk j (by omega)]
    unfold digit
    have e : k - j = (k - (j + 1)) + 1 := by omega
    have e2 : k - 1 - j = k - (j + 1) := by omega
    rw [e, e2]
    exact div_step u _
theorem digits_all (u : Int) (h0 : 0 ≤ u) (k : Nat) (hk : u < 2 ^ (8 * k)) : beN (digits u k k) = u := by
  rw [digits_num u h0 k hk k (Nat.le_refl _), Nat.sub_self]
  exact Int.ediv_one u
theorem digits_length (u : Int) (k j : Nat) : (digits u k j).length = j := by unfold digits; simp
theorem digits_bytes (u : Int) (k j : Nat) : IsBytes (digits u k j) := by
  refine IsBytes.of fun z hz => ?_
  unfold digits at hz
  obtain ⟨i, _, rfl⟩ := List.mem_map.1 hz
  unfold digit
  omega
theorem or_step (A d : Int) (h0 : 0 ≤ A) (h1 : A < 72057594037927936) (d0 : 0 ≤ d) (d1 : d < 256) : bits .or .u64 (IntKind.u64.wrap (A * 256)) d = A * 256 + d := by
  obtain ⟨a, rfl⟩ := Int.eq_ofNat_of_zero_le h0
  obtain ⟨e, rfl⟩ := Int.eq_ofNat_of_zero_le d0
  have hw : IntKind.u64.wrap ((a : Int) * 256) = ((a * 256 : Nat) : Int) := by rw [IntKind.wrap_u64]; omega
  rw [hw, bits_or_u64_nat _ _ (by omega) (by omega)]
  have := Nat.shiftLeft_add_eq_or_of_lt (i := 8) (show e < 2 ^ 8 by omega) a
  rw [Nat.shiftLeft_eq, show (2 : Nat) ^ 8 = 256 from rfl] at this
  omega
theorem beTo_num (zs : List Int) (h : IsBytes zs) : ∀ k, k ≤ 8 → k ≤ zs.length → beTo zs k = beN (zs.take k)
  | 0, _, _ => rfl
  | k + 1, hk, hl => by
    have ih := beTo_num zs h k (by omega) (by omega)
    have hr := beN_range (zs.take k) (h.take k)
    rw [List.length_take, Nat.min_eq_left (by omega)] at hr
    have hp : (256 : Int) ^ k ≤ 256 ^ 7 := by
      rw [pow_nat, pow_nat]
      have := Nat.pow_le_pow_right (n := 2) (by decide) (show 8 * k ≤ 8 * 7 by omega)
      omega
    have hq : (256 : Int) ^ 7 = 72057594037927936 := by decide
    show bits .or .u64 (IntKind.u64.wrap (beTo zs k * 256)) (zs[k]?.getD 0) = _
    rw [ih, take_snoc zs k (by omega), beN_snoc]
    exact or_step _ _ hr.1 (by omega) (h k).1 (h k).2
theorem numBytes_bytes (u : Int) (h0 : 0 ≤ u) (h1 : u < 18446744073709551616) : IsBytes (numBytes u) := by
  unfold numBytes
  split
  · exact IsBytes.one h0 (by omega)
  · have := kOf_le u h1
    exact (IsBytes.one (by omega) (by omega)).append (digits_bytes _ _ _)
theorem numBytes_size (u : Int) : (numBytes u).length = sizeN u := by
  unfold numBytes sizeN
  split
  · rfl
  · rw [List.length_append, digits_length]; rfl
theorem firstOf_numBytes (u : Int) (h0 : 0 ≤ u) (h1 : u < 18446744073709551616) (rest : List Int) (hr : IsBytes rest) : firstOf (numBytes u ++ rest) = (u, sizeN u, 0) := by
  by_cases hu : u ≤ 247
  · have e : numBytes u = [u] := by unfold numBytes; rw [if_pos hu]
    have e2 : sizeN u = 1 := by unfold sizeN; rw [if_pos hu]
    rw [e, e2]
    unfold firstOf
    rw [if_neg (by simp)]
    have e3 : ([u] ++ rest)[0]?.getD 0 = u := rfl
    rw [e3, if_pos hu]
  · obtain ⟨k1, k2, k3⟩ := kOf_bounds u (by omega) h1
    have k8 := kOf_le u h1
    have e : numBytes u = [247 + (kOf u : Int)] ++ digits u (kOf u) (kOf u) := by unfold numBytes; rw [if_neg hu]
    have e2 : sizeN u = 1 + kOf u := by unfold sizeN; rw [if_neg hu]
    rw [e]
    unfold firstOf
    have e3 : ([247 + (kOf u : Int)] ++ digits u (kOf u) (kOf u) ++ rest)[0]?.getD 0 = 247 + (kOf u : Int) := rfl
    have e4 : (247 + (kOf u : Int) - 247).toNat = kOf u := by omega
    have e5 : ([247 + (kOf u : Int)] ++ digits u (kOf u) (kOf u) ++ rest).length = 1 + kOf u + rest.length := by rw [List.length_append, List.length_append, digits_length]; rfl
    have e6 : ([247 + (kOf u : Int)] ++ digits u (kOf u) (kOf u) ++ rest).drop 1 = digits u (kOf u) (kOf u) ++ rest := rfl
    have hb : beTo (digits u (kOf u) (kOf u) ++ rest) (kOf u) = u := by
      rw [beTo_num _ ((digits_bytes _ _ _).append hr) _ k8 (by rw [List.length_append, digits_length]; omega)]
      have : (digits u (kOf u) (kOf u) ++ rest).take (kOf u) = digits u (kOf u) (kOf u) := by
        have := List.take_left (l₁ := digits u (kOf u) (kOf u)) (l₂ := rest)
        rwa [digits_length] at this
      rw [this, digits_all u h0 _ k3]
    rw [e3, e4, e5, e6, hb, if_neg (by omega), if_neg (by omega), if_neg (by omega), if_pos e2, e2]
theorem readN_numBytes (u most : Int) (h0 : 0 ≤ u) (h1 : u < 18446744073709551616) (hm : u ≤ most) (rest : List Int) (hr : IsBytes rest) : readN (numBytes u ++ rest) 0 most = (u, rest, 0) := by
  unfold readN
  rw [firstOf_numBytes u h0 h1 rest hr, if_neg (by simp), if_neg (by simp), if_neg (by show ¬ most < u; omega)]
  show (u, (numBytes u ++ rest).drop (sizeN u), (0 : Int)) = _
  rw [← numBytes_size, List.drop_left]
end
section
section
open Go.RowKit
def st (zs : List Int) : ByteArray := ⟨(zs.map fun z => UInt8.ofNat z.toNat).toArray⟩
theorem st_size (zs : List Int) : (st zs).size = zs.length := by simp [st, ByteArray.size]
theorem st_append (xs ys : List Int) : st (xs ++ ys) = st xs ++ st ys := by
  apply ByteArray.ext
  simp [st, ByteArray.data_append]
theorem conv_any {w : World} {v : Value} {zs : List Int} {S : Nat → Prop} (h : BySl S w v zs) : (convert 26 9 v).run Tryz.prog w = .ok (.string (st zs)) w := by
  obtain ⟨hz, ⟨⟨a, cap, rfl⟩, rfl⟩ | ⟨blk, off, cap, rfl, hc, hm, hb, _⟩⟩ := h
  · cases a with
    | none =>
      rw [run_convert_bytes_string w 26 9 5 none 0 cap Tryz.underlying26 Tryz.underlying5 Tryz.underlying9]
      simp [Conv.bytesToString, go_sem, st]
      rfl
    | some a => exact run_convert_bytes_back (P := Tryz.prog) w 26 9 5 a cap [] Tryz.underlying26 Tryz.underlying5 Tryz.underlying9 (fun j hj => by simp at hj)
  · have := run_convert_bytes_back (P := Tryz.prog) w 26 9 5 ⟨blk, off, none⟩ cap (zs.map fun z => UInt8.ofNat z.toNat) Tryz.underlying26 Tryz.underlying5 Tryz.underlying9 (fun j hj => by
      have hj' : j < zs.length := by simpa using hj
      have e := hb j hj'
      have r := hz j
      rw [List.getElem?_eq_getElem hj'] at e r
      simp only [Option.getD_some] at e r
      have ea : Addr.add ⟨blk, off, none⟩ j = ⟨blk, off + j, none⟩ := by unfold Addr.add; split <;> simp_all
      rw [ea, e]
      congr 2
      simp only [List.getElem_map, UInt8.toNat_ofNat']
      omega)
    rw [List.length_map] at this
    exact this
end
section
open Go.RowKit
theorem st_list (xs : List Int) : (st xs).toList = xs.map fun z => UInt8.ofNat z.toNat := ByteArray.toList_mk _
theorem byte_eq (a b : Int) (ha : 0 ≤ a ∧ a < 256) (hb : 0 ≤ b ∧ b < 256) : (UInt8.ofNat a.toNat = UInt8.ofNat b.toNat) ↔ a = b := by
  rw [← UInt8.toNat_inj, UInt8.toNat_ofNat', UInt8.toNat_ofNat']
  omega
theorem map_eq : ∀ (xs ys : List Int), IsBytes xs → IsBytes ys → (xs.map (fun z => UInt8.ofNat z.toNat) = ys.map (fun z => UInt8.ofNat z.toNat)) → xs = ys
  | [], [], _, _, _ => rfl
  | [], _ :: _, _, _, h => by simp at h
  | _ :: _, [], _, _, h => by simp at h
  | a :: x, b :: y, hx, hy, h => by
    rw [List.map_cons, List.map_cons, List.cons.injEq] at h
    rw [(byte_eq a b hx.head hy.head).1 h.1, map_eq x y hx.tail hy.tail h.2]
theorem st_beq (xs ys : List Int) (hx : IsBytes xs) (hy : IsBytes ys) : ((st xs).toList == (st ys).toList) = decide (xs = ys) := by
  rw [st_list, st_list]
  by_cases h : xs = ys
  · subst h; simp
  · rw [decide_eq_false h, beq_eq_false_iff_ne]
    exact fun e => h (map_eq xs ys hx hy e)
end
section
open Go.RowKit
theorem pow_le (a b : Nat) (h : a ≤ b) : (2 : Int) ^ a ≤ 2 ^ b := by
  have := Nat.pow_le_pow_right (n := 2) (by decide) h
  have e1 : ((2 ^ a : Nat) : Int) = 2 ^ a := Int.natCast_pow 2 a
  have e2 : ((2 ^ b : Nat) : Int) = 2 ^ b := Int.natCast_pow 2 b
  omega
end
section
open Go.RowKit
theorem idx_any (zs : List Int) (w : World) (hz : IsBytes zs) (i : Nat) (hi : i < zs.length) :
    (Instr.index 9 (.string (st zs)) (.int .i64 i)).run Tryz.prog w = .ok (.int .u8 (zs[i]?.getD 0)) w := by
  rw [run_index_string (P := Tryz.prog) w 9 (st zs) .i64 i Tryz.underlying9, dif_pos ⟨by omega, by rw [st_size]; omega⟩]
  have h := hz i
  have e : ((st zs)[(i : Int).toNat]'(by rw [st_size]; omega)) = UInt8.ofNat (zs[i]?.getD 0).toNat := by
    show ((zs.map fun z => UInt8.ofNat z.toNat).toArray)[(i : Int).toNat]'_ = _
    rw [List.getElem?_eq_getElem hi]
    simp
  rw [e]
  congr 2
  rw [UInt8.toNat_ofNat']
  omega
theorem st_extract (zs : List Int) (n : Nat) : (st zs).extract n zs.length = st (zs.drop n) := by
  apply ByteArray.ext
  simp [st, ByteArray.data_extract]
  exact List.take_of_length_le (by simp)
theorem conv_one (w : World) (x : Int) (h0 : 0 ≤ x) (h1 : x < 256) :
    (convert 26 9 (.slice (some ⟨w.heap.size, 0, none⟩) 1 1)).run Tryz.prog (w.alloc (.cells #[.int .u8 x] 5)) = .ok (.string (st [x])) (w.alloc (.cells #[.int .u8 x] 5)) :=
  conv_any (BySl.lit w 5 [x] (by simpa using ⟨h0, h1⟩) (by show 1 ≤ maxLen; decide) Nb (fun h => h))
end
section
open Go.RowKit
def RnR (u : Int) (k : Nat) (w : World) (v s : Value) (wr : World) : Prop :=
  ∃ j : Nat, j ≤ k ∧ v = .int .u64 (u / 2 ^ (8 * j)) ∧ s = .string (st ((digits u k k).drop (k - j))) ∧ Hid (Kp Nb w wr)
theorem digits_get (u : Int) (k i : Nat) (hi : i < k) : (digits u k k)[i]?.getD 0 = digit u k i := by
  unfold digits
  simp [hi]
theorem digits_drop (u : Int) (k j : Nat) (hj : j < k) : (digits u k k).drop (k - (j + 1)) = u / 2 ^ (8 * j) % 256 :: (digits u k k).drop (k - j) := by
  have hl := digits_length u k k
  have hd := List.drop_eq_getElem_cons (l := digits u k k) (i := k - (j + 1)) (by omega)
  have hg := digits_get u k (k - (j + 1)) (by omega)
  rw [List.getElem?_eq_getElem (by omega), Option.getD_some] at hg
  rw [hd, hg, show k - (j + 1) + 1 = k - j from by omega]
  unfold digit
  rw [show k - 1 - (k - (j + 1)) = j from by omega]
set_option maxRecDepth 100000 in
set_option maxHeartbeats 400000 in
theorem refn_number (u : Int) (w : World) (h0 : 0 ≤ u) (h1 : u < 18446744073709551616) :
    Calls Tryz.prog 61 #[.int .u64 u] w fun e w' => e = .returned (.string (st (numBytes u))) ∧ Kp Nb w w' := by
  by_cases hle : u ≤ 247
  · have hc := fun w => conv_one w u h0 (by omega)
    have hn := hid (show numBytes u = [u] by unfold numBytes; rw [if_pos hle])
    go_enter Tryz.func61, Tryz.ntmps61
    go_wp2
    go_ret
    exact ⟨by rw [hn.out]; rfl, (Kp.refl Nb w).alloc _⟩
  · obtain ⟨k1, k2, k3⟩ := kOf_bounds u (by omega) h1
    have k8 := kOf_le u h1
    have hn := hid (show numBytes u = [247 + (kOf u : Int)] ++ digits u (kOf u) (kOf u) by unfold numBytes; rw [if_neg hle])
    obtain ⟨k, hk⟩ : ∃ k, k = kOf u := ⟨_, rfl⟩
    rw [← hk] at k1 k2 k3 k8 hn
    have K2 := hid k2
    have K3 := hid k3
    have H0 := hid h0
    clear hk k2 k3
    go_enter Tryz.func61, Tryz.ntmps61
    go_wp2
    go_loopw [0, 3] (RnR u k w) (fun v _ _ => (intOf v).toNat)
    case atStart => exact ⟨0, Nat.zero_le _, by simp, by rw [Nat.sub_zero, List.drop_of_length_le (by rw [digits_length]; exact Nat.le_refl _)]; rfl, Kp.refl Nb w⟩
    case round =>
      obtain ⟨j, hj, rfl, rfl, hkp⟩ := hrel
      by_cases hjk : j < k
      · have hp := pow_le (8 * j) (8 * (k - 1)) (by omega)
        have hpp : (0 : Int) < 2 ^ (8 * j) := Int.pow_pos (by decide)
        obtain ⟨X, hX⟩ : ∃ X, X = u / 2 ^ (8 * j) := ⟨_, rfl⟩
        have x0 : 1 ≤ X := by rw [hX]; exact (Int.le_ediv_iff_mul_le hpp).2 (by have := K2.out; omega)
        have x1 : X ≤ u := by rw [hX]; exact Int.ediv_le_self _ H0.out
        have x2 : X < 18446744073709551616 := by omega
        have xn : X / 256 = u / 2 ^ (8 * (j + 1)) := by
          rw [hX, Int.ediv_ediv_of_nonneg (Int.le_of_lt hpp), show (2 : Int) ^ (8 * (j + 1)) = 2 ^ (8 * j) * 256 from by rw [show 8 * (j + 1) = 8 * j + 8 from by omega, Int.pow_add]; rfl]
        have hs := digits_drop u k j hjk
        rw [← hX] at hs ⊢
        have hc := conv_one wr (X % 256) (by omega) (by omega)
        obtain ⟨S, hS⟩ : ∃ S, S = st ((digits u k k).drop (k - j)) := ⟨_, rfl⟩
        have hSz : S.size ≤ 8 := by rw [hS, st_size, List.length_drop, digits_length]; omega
        have hSt : Hid (st [X % 256] ++ S = st ((digits u k k).drop (k - (j + 1)))) := by rw [hs, hS]; unfold Hid; rw [← st_append]; rfl
        have g2 : ¬ (9223372036854775807 < (st [X % 256]).size + S.size) := by rw [st_size]; simp only [List.length_cons, List.length_nil]; omega
        have gx : 0 < X := by omega
        rw [← hS]
        have HR := hid (show RnR u k w (.int .u64 (X / 256)) (.string (st [X % 256] ++ S)) (wr.alloc (.cells #[.int .u8 (X % 256)] 5)) from ⟨j + 1, by omega, by rw [xn], by rw [hSt.out], hkp.out.alloc _⟩)
        have HM := hid (show (intOf (.int .u64 (X / 256))).toNat < (intOf (.int .u64 X)).toNat by simp only [intOf]; omega)
        clear hX hs hS hSt xn hpp hp x1
        go_wp2
        exact ⟨HR.out, HM.out⟩
      · obtain rfl : j = k := by omega
        have hz : u / 2 ^ (8 * j) = 0 := Int.ediv_eq_zero_of_lt H0.out K3.out
        rw [hz, Nat.sub_self, List.drop_zero]
        have hc := conv_one wr (247 + (j : Int)) (by omega) (by omega)
        have hsz : (st (digits u j j)).size = j := by rw [st_size, digits_length]
        have hSt := hid (show st [247 + (j : Int)] ++ st (digits u j j) = st (numBytes u) by rw [hn.out, st_append])
        obtain ⟨S, hS⟩ : ∃ S, S = st (digits u j j) := ⟨_, rfl⟩
        rw [← hS] at hsz hSt ⊢
        have g2 : ¬ (9223372036854775807 < (st [247 + (j : Int)]).size + S.size) := by rw [st_size, hsz]; simp only [List.length_cons, List.length_nil]; omega
        clear hS hz
        go_wp2
        go_ret
        exact ⟨by rw [← hSt.out]; rfl, hkp.out.alloc _⟩
end
section
open Go.RowKit
end
section
open Go.RowKit
end
end

end Go.Proofs.YtogoophofgkboaaGreatDoor
