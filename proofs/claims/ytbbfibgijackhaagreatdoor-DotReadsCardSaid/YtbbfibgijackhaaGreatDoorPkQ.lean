/-
  Layer 3: the reference's Right. Conditions: at most 1,000 runs.
  Layer 3: texts as the document's own answer reads them, plainly: split, numbers, runs, clocks; a text is read just when it is a right clock's.
  Of earlier texts what is used here: RefA, RefB, Joined, Lex, PenM, RefH .. No condition.
  Layer 3: the reference's Digits, Dot, Text. Conditions: numbers that are not below 0; at most 1,000 runs.
  Layer 3: the reference's Split and Number. Conditions: a text of at most 1,000,000 bytes.
-/
import Derived.Test.YtbbfibgijackhaaGreatDoorDtB
import Derived.Test.YtbbfibgijackhaaGreatDoorDtD
import Derived.Test.YtbbfibgijackhaaGreatDoorPkM
import Derived.Test.YtbbfibgijackhaaGreatDoorPkO
import Derived.Test.YtbbfibgijackhaaGreatDoorPkX
import Derived.Test.YtbbfibgijackhaaGreatDoorPenNew
import Derived.Test.YtbbfibgijackhaaGreatDoorProg
import Derived.Deep.DeepCutAuto
import Derived.Deep.RegionHeld3
import Derived.Laws.IdiomStrings
import Derived.Test.YtbbfibgijackhaaGreatDoorDtF
namespace Go.Proofs.YtbbfibgijackhaaGreatDoor
open Go.RowKit

theorem rightC_bad {c : List RunQ} {k : Nat} (hk : k < c.length) (h : goodR (runAt c k) = false ∨ (0 < k ∧ gapB (runAt c (k - 1)) (runAt c k) = false)) : rightC c = false := by
  rw [Bool.eq_false_iff]
  intro hr
  have := rightC_of.1 hr k hk
  rcases h with h | ⟨h0, h⟩
  · rw [h] at this; cases this.1
  · have h2 := this.2 h0
    rw [h] at h2
    cases h2
def RrR (w : World) (c : List RunQ) (i : Value) (wr : World) : Prop := ∃ k : Nat, k ≤ c.length ∧ i = .int .i64 k ∧ Hid (∀ j, j < k → goodR (runAt c j) = true ∧ (0 < j → gapB (runAt c (j - 1)) (runAt c j) = true)) ∧ Hid (Kp Nb w wr)
set_option maxRecDepth 100000 in
set_option maxHeartbeats 8000000 in
theorem rright_any (v : Value) (c : List RunQ) (w : World) (hs : ClSl w v c) (hl : c.length ≤ 1000000) :
    Calls Tryz.prog 10 #[v] w fun e w' => e = .returned (.bool (rightC c)) ∧ Kp Nb w w' := by
  obtain ⟨pv, dv, rfl⟩ := hs.shape
  obtain ⟨L, hL⟩ : ∃ L, c.length = L := ⟨_, rfl⟩
  have HLE := hid hL
  rw [hL] at hs hl ⊢
  have HS := hid hs
  have hLb := hl
  obtain ⟨R, hR⟩ : ∃ b, rightC c = b := ⟨_, rfl⟩
  have HRR := hid hR
  rw [hR]
  clear hs hL hl hR
  go_enter Tryz.func10, Tryz.ntmps10
  go_wp2_with fail
  go_loopw [7] (RrR w c) (fun i _ => L - (intOf i).toNat)
  case atStart => exact ⟨0, Nat.zero_le _, rfl, hid (fun j hj => by omega), hid (Kp.refl _ _)⟩
  case round =>
    obtain ⟨k, hk, rfl, HJ, HK⟩ := hrel
    rw [HLE.out] at hk
    by_cases hlt : k < L
    · obtain ⟨blk, off, cap, e1, hc, hm, hcell⟩ := cl_shape (HS.out.kept HK.out) (by intro h; have := HLE.out; rw [h, List.length_nil] at this; omega)
      rw [HLE.out] at e1 hc hcell
      injection e1 with e1 _ e2
      subst e1 e2
      have HR := hid (hcell k hlt)
      obtain ⟨⟨qn, qf, qt⟩, hq⟩ : ∃ q, runAt c k = q := ⟨_, rfl⟩
      have HOK := HS.out.1 k
      rw [hq] at HR HOK
      have HQ := hid hq
      obtain ⟨M, hM⟩ : ∃ M, wr.heap.size = M := ⟨_, rfl⟩
      obtain ⟨W2, hW2⟩ : ∃ W, W = (wr.alloc (.cells (runL (0, 0, 0)).toArray 61)).setCells M 0 (runL (qn, qf, qt)) := ⟨_, rfl⟩
      have hz := Blk.new wr 61 (runL (0, 0, 0))
      rw [hM] at hz
      have KW : Hid (Kp Nb wr W2) := hid (by rw [hW2]; exact Kp.setCells (fun h => absurd h (by omega)) _ 0 _ ((Kp.refl Nb wr).alloc _))
      have HMW : Hid (wr.heap.size = M) := hid hM
      have TH := hid (run_there (q := (qn, qf, qt)) hz)
      have HZ : Hid (Blk W2 M 61 (runL (qn, qf, qt))) := hid (by rw [hW2]; exact row_set hz rfl)
      have HK2 := hid (HK.out.trans KW.out (fun _ _ h => h))
      unfold maxLen at hm
      obtain ⟨fs, hfs⟩ := under_run
      clear hz hcell hq
      go_upto_region 4 with (first
        | (refine wpList_load_mid (by rfl) 61 (.tmp 10) (by rfl) blk (off + k * 3) (by rfl) (runL (qn, qf, qt)) _ HR.out hfs rfl (run_infoL (qn, qf, qt)) ?_)
        | (refine wpList_store_mid (by rfl) 61 (.tmp 4) (.tmp 11) (by rfl) M 0 (runL (qn, qf, qt)).toArray (by rfl) (by rfl) TH.out (run_infoA (qn, qf, qt)) (run_one (qn, qf, qt)) ?_))
      rw [show (wr.alloc (.cells #[.int .i64 0, .int .i64 0, .int .i64 0] 61)).setCells M 0 (runL (qn, qf, qt)) = W2 from hW2.symm]
      clear hW2 TH hM
      have c0 : W2.cell? ⟨M, 0, none⟩ = some (.int .i64 qn) := HZ.out.cell 0
      have c1 : W2.cell? ⟨M, 1, none⟩ = some (.int .i64 qf) := HZ.out.cell 1
      have c2 : W2.cell? ⟨M, 2, none⟩ = some (.int .i64 qt) := HZ.out.cell 2
      have HC : Hid (k < c.length) := hid (by rw [HLE.out]; exact hlt)
      have HSK := hid (HS.out.kept HK2.out)
      have HBAD : Hid (goodR (qn, qf, qt) = false → R = false) := hid (fun h => by rw [← HRR.out]; exact rightC_bad HC.out (.inl (by rw [HQ.out]; exact h)))
      clear HK KW HMW HR
      by_cases g0 : qn < 0
      · have HF : R = false := HBAD.out (by unfold goodR; exact decide_eq_false (by dsimp only; omega))
        subst HF
        go_wp2
        go_ret
        exact ⟨rfl, HK2.out⟩
      by_cases g1 : 7 < qn
      · have HF : R = false := HBAD.out (by unfold goodR; exact decide_eq_false (by dsimp only; omega))
        subst HF
        go_wp2
        go_ret
        exact ⟨rfl, HK2.out⟩
      by_cases g2 : qf < 1
      · have HF : R = false := HBAD.out (by unfold goodR; exact decide_eq_false (by dsimp only; omega))
        subst HF
        go_wp2
        go_ret
        exact ⟨rfl, HK2.out⟩
      by_cases g3 : qt < qf
      · have HF : R = false := HBAD.out (by unfold goodR; exact decide_eq_false (by dsimp only; omega))
        subst HF
        go_wp2
        go_ret
        exact ⟨rfl, HK2.out⟩
      by_cases g4 : 1099511627776 < qt
      · have HF : R = false := HBAD.out (by unfold goodR; exact decide_eq_false (by dsimp only; omega))
        subst HF
        go_wp2
        go_ret
        exact ⟨rfl, HK2.out⟩
      have HGD : Hid (goodR (qn, qf, qt) = true) := hid (goodR_of.2 (by dsimp only; omega))
      by_cases hk0 : k = 0
      · subst hk0
        have HJN : Hid (∀ j, j < 0 + 1 → goodR (runAt c j) = true ∧ (0 < j → gapB (runAt c (j - 1)) (runAt c j) = true)) := hid (fun j hj => by
          obtain rfl : j = 0 := by omega
          exact ⟨by rw [HQ.out]; exact HGD.out, fun h => by omega⟩)
        go_wp2_with fail
        go_quiet (fail)
        have HK2 := hid (HK2.out.drewN nq)
        go_wp2
        go_roundw
        case rel => exact ⟨0 + 1, by rw [HLE.out]; omega, by go_num, HJN, HK2⟩
        case measure => simp [intOf]; omega
      · obtain ⟨q, rfl⟩ : ∃ q, k = q + 1 := ⟨k - 1, by omega⟩
        obtain ⟨⟨pn, pf, pt⟩, hp⟩ : ∃ x, runAt c q = x := ⟨_, rfl⟩
        have HP := hid hp
        have hgp := (HJ.out q (by omega)).1
        rw [hp] at hgp
        have gp := goodR_of.1 hgp
        dsimp only at gp
        obtain ⟨blk2, off2, cap2, e3, hc3, hm3, hcell2⟩ := cl_shape HSK.out (by intro h; have := HLE.out; rw [h, List.length_nil] at this; omega)
        rw [HLE.out] at e3 hc3 hcell2
        injection e3 with e3 _ e4
        injection e3 with e3
        injection e3 with e3 e5
        subst e3 e4 e5
        have hrp := hcell2 q (by omega)
        rw [hp] at hrp
        have e0 : W2.cell? ⟨blk, off + q * 3 + 0, none⟩ = some (.int .i64 pn) := hrp 0 _ rfl
        have e2 : W2.cell? ⟨blk, off + q * 3 + 2, none⟩ = some (.int .i64 pt) := hrp 2 _ rfl
        rw [Nat.add_zero] at e0
        have w1 : IntKind.i64.wrap ((q : Int) + 1 - 1) = (q : Int) := by rw [show (q : Int) + 1 - 1 = (q : Int) by omega]; exact IntWalk.i64_in _ (by omega)
        have hqL : q < L := by omega
        have w3 : IntKind.i64.wrap (q : Int) = (q : Int) := IntWalk.i64_in _ (by omega)
        have w2 : IntKind.i64.wrap (pt + 2) = pt + 2 := IntWalk.i64_in _ (by omega)
        have HGP : Hid (∀ b, gapB (pn, pf, pt) (qn, qf, qt) = b → gapB (runAt c (q + 1 - 1)) (runAt c (q + 1)) = b) := hid (fun b h => by rw [HQ.out, Nat.add_sub_cancel, HP.out]; exact h)
        have HBG : Hid (gapB (pn, pf, pt) (qn, qf, qt) = false → R = false) := hid (fun h => by rw [← HRR.out]; exact rightC_bad HC.out (.inr ⟨by omega, HGP.out _ h⟩))
        have HJN : Hid (gapB (pn, pf, pt) (qn, qf, qt) = true → ∀ j, j < q + 1 + 1 → goodR (runAt c j) = true ∧ (0 < j → gapB (runAt c (j - 1)) (runAt c j) = true)) := hid (fun h j hj => by
          rcases Nat.lt_or_ge j (q + 1) with h2 | h2
          · exact HJ.out j h2
          · obtain rfl : j = q + 1 := by omega
            exact ⟨by rw [HQ.out]; exact HGD.out, fun _ => HGP.out _ h⟩)
        clear hp hgp hrp hcell2 hm3 hc3 HGP HBAD
        by_cases h1 : qn < pn
        · have HF : R = false := HBG.out (by unfold gapB; simp [h1])
          subst HF
          go_wp2_with fail
          go_quiet (fail)
          have HK2 := hid (HK2.out.drewN nq)
          go_wp2
          go_ret
          exact ⟨rfl, HK2.out⟩
        · by_cases h2 : pn = qn
          · subst h2
            by_cases h3 : qf < pt + 2
            · have HF : R = false := HBG.out (by unfold gapB; simp [h3])
              subst HF
              go_wp2_with fail
              go_quiet (fail)
              have HK2 := hid (HK2.out.drewN nq)
              go_wp2
              go_ret
              exact ⟨rfl, HK2.out⟩
            · have HX := hid (HJN.out (by unfold gapB; simp [h3]))
              go_wp2_with fail
              go_quiet (fail)
              have HK2 := hid (HK2.out.drewN nq)
              go_wp2
              go_roundw
              case rel => exact ⟨q + 1 + 1, by rw [HLE.out]; omega, by go_num, HX, HK2⟩
              case measure => simp [intOf]; omega
          · have h4 : (pn == qn) = false := beq_eq_false_iff_ne.2 h2
            have h5 : decide (qn < pn) = false := decide_eq_false h1
            have HX := hid (HJN.out (by unfold gapB; simp [h1]; omega))
            clear h1
            go_wp2_with fail
            go_quiet (fail)
            have HK2 := hid (HK2.out.drewN nq)
            go_wp2
            go_roundw
            case rel => exact ⟨q + 1 + 1, by rw [HLE.out]; omega, by go_num, HX, HK2⟩
            case measure => simp [intOf]; omega
    · obtain rfl : k = L := by omega
      have HF : R = true := by rw [← HRR.out]; exact rightC_of.2 (fun i hi => HJ.out i (by rw [← HLE.out]; exact hi))
      subst HF
      go_wp2
      go_ret
      exact ⟨rfl, HK.out⟩

end Go.Proofs.YtbbfibgijackhaaGreatDoor

namespace Go.Proofs.YtbbfibgijackhaaGreatDoor
open Go.RowKit

def splF (c : UInt8) (p : List (List UInt8) × List UInt8) (b : UInt8) : List (List UInt8) × List UInt8 := if b = c then (p.1 ++ [p.2], []) else (p.1, p.2 ++ [b])
def splS (c : UInt8) (s : List UInt8) : List (List UInt8) × List UInt8 := s.foldl (splF c) ([], [])
def splL (c : UInt8) (s : List UInt8) : List (List UInt8) := (splS c s).1 ++ [(splS c s).2]
theorem splS_snoc (c b : UInt8) (s : List UInt8) : splS c (s ++ [b]) = splF c (splS c s) b := by unfold splS; rw [List.foldl_append]; rfl
theorem splS_nil (c : UInt8) : splS c [] = ([], []) := rfl
def jnL (c : UInt8) (d : List (List UInt8)) (u : List UInt8) : List UInt8 := d.flatMap (fun x => x ++ [c]) ++ u
theorem jn_fold (c : UInt8) : ∀ (s : List UInt8) (p : List (List UInt8) × List UInt8), jnL c (s.foldl (splF c) p).1 (s.foldl (splF c) p).2 = jnL c p.1 p.2 ++ s
  | [], p => by simp
  | b :: s, p => by
    rw [List.foldl_cons, jn_fold c s]
    unfold splF jnL
    by_cases h : b = c
    · rw [if_pos h]; simp [h]
    · rw [if_neg h]; simp
theorem jn_join (c : UInt8) : ∀ (d : List (List UInt8)) (u : List UInt8), Lib.join (d ++ [u]) [c] = jnL c d u
  | [], u => by rw [List.nil_append, Lib.join_cons]; unfold Lib.joinTail jnL; simp
  | x :: d, u => by
    rw [List.cons_append, Lib.join_cons]
    have ih := jn_join c d u
    cases d with
    | nil => unfold jnL; simp [Lib.joinTail]
    | cons y d =>
      rw [List.cons_append, Lib.join_cons] at ih
      rw [List.cons_append]
      have e : ∀ l : List (List UInt8), Lib.joinTail [c] (y :: l) = [c] ++ (y ++ Lib.joinTail [c] l) := fun l => by simp [Lib.joinTail]
      rw [e, ih]
      unfold jnL
      simp only [List.flatMap_cons, List.append_assoc]
theorem spl_join (c : UInt8) (s : List UInt8) : Lib.join (splL c s) [c] = s := by
  unfold splL
  rw [jn_join]
  unfold splS
  rw [jn_fold]
  rfl
theorem fold_no (c : UInt8) : ∀ (x : List UInt8) (p : List (List UInt8) × List UInt8), c ∉ x → x.foldl (splF c) p = (p.1, p.2 ++ x)
  | [], p, _ => by simp
  | b :: x, p, h => by
    rw [List.foldl_cons, fold_no c x _ (fun hm => h (List.mem_cons_of_mem _ hm))]
    have hb : b ≠ c := fun e => h (by rw [e]; exact List.mem_cons_self)
    unfold splF
    rw [if_neg hb]
    simp
theorem fold_tail (c : UInt8) : ∀ (xs : List (List UInt8)) (p : List (List UInt8) × List UInt8), (∀ y ∈ xs, c ∉ y) → ((Lib.joinTail [c] xs).foldl (splF c) p).1 ++ [((Lib.joinTail [c] xs).foldl (splF c) p).2] = p.1 ++ [p.2] ++ xs
  | [], p, _ => by simp [Lib.joinTail]
  | y :: ys, p, h => by
    have e : Lib.joinTail [c] (y :: ys) = c :: (y ++ Lib.joinTail [c] ys) := by unfold Lib.joinTail; simp
    rw [e, List.foldl_cons, List.foldl_append, fold_no c y _ (h y (by simp)), fold_tail c ys _ (fun z hz => h z (by simp [hz]))]
    unfold splF
    rw [if_pos rfl]
    simp
theorem spl_of (c : UInt8) (x : List UInt8) (xs : List (List UInt8)) (h : ∀ y ∈ x :: xs, c ∉ y) : splL c (Lib.join (x :: xs) [c]) = x :: xs := by
  rw [Lib.join_cons]
  unfold splL splS
  rw [List.foldl_append, fold_no c x _ (h x (by simp)), fold_tail c xs _ (fun y hy => h y (by simp [hy]))]
  simp
theorem spl_len (c : UInt8) : ∀ (s : List UInt8) (p : List (List UInt8) × List UInt8), (s.foldl (splF c) p).1.length ≤ p.1.length + s.length ∧ (s.foldl (splF c) p).2.length ≤ p.2.length + s.length
  | [], p => by simp
  | b :: s, p => by
    rw [List.foldl_cons]
    have ih := spl_len c s (splF c p b)
    have h1 : (splF c p b).1.length ≤ p.1.length + 1 ∧ (splF c p b).2.length ≤ p.2.length + 1 := by
      unfold splF
      split <;> simp
    rw [List.length_cons]
    omega
theorem splS_len (c : UInt8) (s : List UInt8) : (splS c s).1.length ≤ s.length ∧ (splS c s).2.length ≤ s.length := by
  have := spl_len c s ([], [])
  simp only [List.length_nil, Nat.zero_add] at this
  exact this
theorem mem_join (c : UInt8) (d : List (List UInt8)) (u : List UInt8) (x : List UInt8) (h : x ∈ d ++ [u]) : x.length ≤ (jnL c d u).length := by
  unfold jnL
  rw [List.length_append]
  rcases List.mem_append.1 h with h | h
  · have : x.length ≤ (d.flatMap (fun x => x ++ [c])).length := by
      rw [List.length_flatMap]
      obtain ⟨a, b, rfl⟩ := List.append_of_mem h
      rw [List.map_append, List.sum_append, List.map_cons, List.sum_cons, List.length_append]
      omega
    omega
  · rw [List.mem_singleton.1 h]; omega
theorem spl_mem {c : UInt8} {s x : List UInt8} (h : x ∈ splL c s) : x.length ≤ s.length := by
  have := mem_join c (splS c s).1 (splS c s).2 x h
  have e := jn_fold c s ([], [])
  unfold splS at this
  rw [e] at this
  exact this

/- Numbers. -/
def numT (s : List UInt8) : Option Nat := if s.length < 1 ∨ 18 < s.length ∨ (1 < s.length ∧ s[0]?.getD 0 = 48) then none else Lib.decFrom 0 s
theorem decFrom_snoc (s : List UInt8) (b : UInt8) : Lib.decFrom 0 (s ++ [b]) = (Lib.decFrom 0 s).bind fun n => (Lib.digitVal b).bind fun d => some (n * 10 + d) := by
  rw [decFrom_app]
  congr 1
  funext n
  simp only [Lib.decFrom]
  cases Lib.digitVal b <;> rfl
theorem digitVal_some {b : UInt8} {d : Nat} (h : Lib.digitVal b = some d) : d < 10 ∧ UInt8.ofNat (48 + d) = b := by
  unfold Lib.digitVal at h
  split at h
  · rename_i hb
    injection h with h
    refine ⟨by omega, ?_⟩
    apply UInt8.toNat_inj.1
    rw [UInt8.toNat_ofNat']
    omega
  · cases h
theorem snoc_of {α : Type} (l : List α) (h : l ≠ []) : ∃ t b, l = t ++ [b] := ⟨l.dropLast, l.getLast h, (List.dropLast_concat_getLast h).symm⟩
theorem dec_zero : Lib.decDigits 0 = [48] := by
  unfold Lib.decDigits
  rw [dif_pos (by decide)]
  rfl
theorem dec_of : ∀ (k : Nat) (s : List UInt8) (n : Nat), s.length = k → s ≠ [] → ¬ (1 < s.length ∧ s[0]?.getD 0 = 48) → Lib.decFrom 0 s = some n → Lib.decDigits n = s := by
  intro k
  induction k with
  | zero => intro s n hk h0 _ _; exact (h0 (List.length_eq_zero_iff.1 hk)).elim
  | succ k ih =>
    intro s n hk h0 hz hn
    obtain ⟨t, b, rfl⟩ := snoc_of s h0
    rw [List.length_append, List.length_singleton] at hk
    rw [decFrom_snoc] at hn
    cases hm : Lib.decFrom 0 t with
    | none => rw [hm] at hn; cases hn
    | some m =>
      rw [hm] at hn
      cases hd : Lib.digitVal b with
      | none => rw [hd] at hn; cases hn
      | some d =>
        rw [hd] at hn
        obtain ⟨d1, d2⟩ := digitVal_some hd
        simp only [Option.bind_some, Option.some.injEq] at hn
        by_cases ht : t = []
        · subst ht
          have : m = 0 := by simp [Lib.decFrom] at hm; omega
          subst this
          unfold Lib.decDigits
          rw [dif_pos (by omega), ← hn, ← d2]
          simp
        · have e := ih t m (by omega) ht (fun h => hz ⟨by rw [List.length_append]; omega, by rw [List.getElem?_append_left (by omega)]; exact h.2⟩) hm
          have hm0 : m ≠ 0 := by
            intro h
            subst h
            have e2 : t = [48] := by rw [← e]; exact dec_zero
            apply hz
            rw [e2]
            exact ⟨by simp, rfl⟩
          unfold Lib.decDigits
          rw [dif_neg (by omega)]
          have e1 : n / 10 = m := by omega
          have e2 : n % 10 = d := by omega
          rw [e1, e2, e, d2]
theorem dec_head : ∀ (n : Nat), 0 < n → (Lib.decDigits n)[0]?.getD 0 ≠ 48 := by
  intro n
  induction n using Nat.strongRecOn with
  | _ n ih =>
    intro h0
    unfold Lib.decDigits
    split
    · rename_i h
      simp only [List.getElem?_cons_zero, Option.getD_some]
      intro e
      have := congrArg UInt8.toNat e
      rw [dig_of n h] at this
      have e48 : (48 : UInt8).toNat = 48 := rfl
      omega
    · have hne := dec_ne (n / 10)
      rw [List.getElem?_append_left (by cases hl : Lib.decDigits (n / 10) with | nil => exact (hne hl).elim | cons a b => simp)]
      exact ih (n / 10) (by omega) (by omega)
theorem numT_itoa (n : Int) (h : 0 ≤ n) (h1 : n ≤ 1099511627776) : numT (Lib.itoa n) = some n.toNat := by
  have hl := itoa_short n h h1
  have hne := itoa_ne n h
  unfold numT
  rw [if_neg, itoa_pos n h, decFrom_dec]
  rintro (h2 | h2 | ⟨h2, h3⟩)
  · cases he : Lib.itoa n with
    | nil => exact hne he
    | cons a b => rw [he, List.length_cons] at h2; omega
  · omega
  · rw [itoa_pos n h] at h2 h3
    by_cases hz : 0 < n.toNat
    · exact dec_head _ hz h3
    · have : n.toNat = 0 := by omega
      rw [this] at h2
      have e : (Lib.decDigits 0).length = 1 := by rw [dec_zero]; rfl
      omega
theorem numT_text {s : List UInt8} {n : Nat} (h : numT s = some n) : Lib.itoa (n : Int) = s := by
  unfold numT at h
  split at h
  · cases h
  · rename_i hc
    rw [itoa_pos _ (by omega), Int.toNat_natCast]
    exact dec_of _ s n rfl (fun e => hc (.inl (by rw [e]; decide))) (fun e => hc (.inr (.inr e))) h
theorem decFrom_lt : ∀ (s : List UInt8) (n : Nat), Lib.decFrom 0 s = some n → n < 10 ^ s.length := by
  intro s
  obtain ⟨k, hk⟩ : ∃ k, s.length = k := ⟨_, rfl⟩
  induction k generalizing s with
  | zero => intro n h; rw [List.length_eq_zero_iff.1 hk] at h; simp [Lib.decFrom] at h; rw [hk]; omega
  | succ k ih =>
    intro n h
    obtain ⟨t, b, rfl⟩ := snoc_of s (by intro e; rw [e] at hk; cases hk)
    rw [List.length_append, List.length_singleton] at hk ⊢
    rw [decFrom_snoc] at h
    cases hm : Lib.decFrom 0 t with
    | none => rw [hm] at h; cases h
    | some m =>
      cases hd : Lib.digitVal b with
      | none => rw [hm, hd] at h; cases h
      | some d =>
        rw [hm, hd] at h
        simp only [Option.bind_some, Option.some.injEq] at h
        have := ih t (by omega) m hm
        have := (digitVal_some hd).1
        rw [Nat.pow_succ]
        omega

/- Runs and clocks. -/
def prsQ : List (List UInt8) → Nat → Option RunQ
  | [q0], a => (numT q0).bind fun b => some ((a : Int), (b : Int), (b : Int))
  | [q0, q1], a => (numT q0).bind fun b => (numT q1).bind fun t => if t = b then none else some ((a : Int), (b : Int), (t : Int))
  | _, _ => none
def prsR (w : List UInt8) : Option RunQ :=
  match splL 58 w with
  | [p0, p1] => (numT p0).bind fun a => prsQ (splL 45 p1) a
  | _ => none
def prsL : List (List UInt8) → Option (List RunQ)
  | [] => some []
  | w :: ws => (prsR w).bind fun r => (prsL ws).map (r :: ·)
def parT (s : List UInt8) : Option (List RunQ) := if s = [45] then some [] else (prsL (splL 32 s)).bind fun c => if rightC c then some c else none
theorem prsL_snoc (ws : List (List UInt8)) (w : List UInt8) : ∀ c, prsL ws = some c → prsL (ws ++ [w]) = (prsR w).map (fun r => c ++ [r]) := by
  induction ws with
  | nil =>
    intro c h
    simp only [prsL, Option.some.injEq] at h
    subst h
    simp only [List.nil_append, prsL]
    cases prsR w <;> rfl
  | cons x ws ih =>
    intro c h
    rw [List.cons_append]
    simp only [prsL] at h ⊢
    cases hx : prsR x with
    | none => rw [hx] at h; cases h
    | some r =>
      rw [hx] at h
      simp only [Option.bind_some] at h ⊢
      cases hws : prsL ws with
      | none => rw [hws] at h; cases h
      | some c' =>
        rw [hws] at h
        simp only [Option.map_some, Option.some.injEq] at h
        rw [ih c' hws, ← h]
        cases prsR w <;> rfl
theorem prsL_none (a b : List (List UInt8)) (w : List UInt8) (h : prsR w = none) : prsL (a ++ w :: b) = none := by
  induction a with
  | nil => simp [prsL, h]
  | cons x a ih =>
    rw [List.cons_append]
    simp only [prsL]
    rw [ih]
    cases prsR x <;> rfl
theorem prsL_len : ∀ (ws : List (List UInt8)) (c : List RunQ), prsL ws = some c → c.length = ws.length := by
  intro ws
  induction ws with
  | nil => intro c h; simp only [prsL, Option.some.injEq] at h; rw [← h]; rfl
  | cons x ws ih =>
    intro c h
    simp only [prsL] at h
    cases hx : prsR x with
    | none => rw [hx] at h; cases h
    | some r =>
      cases hws : prsL ws with
      | none => rw [hx, hws] at h; cases h
      | some c' =>
        rw [hx, hws] at h
        simp only [Option.bind_some, Option.map_some, Option.some.injEq] at h
        rw [← h, List.length_cons, List.length_cons, ih c' hws]
theorem join_two (c : UInt8) (x y : List UInt8) : Lib.join [x, y] [c] = x ++ [c] ++ y := by rw [Lib.join_cons]; simp [Lib.joinTail]
theorem join_one (c : UInt8) (x : List UInt8) : Lib.join [x] [c] = x := by rw [Lib.join_cons]; simp [Lib.joinTail]
theorem prsR_text {w : List UInt8} {r : RunQ} (h : prsR w = some r) (hg : r.2.1 ≤ r.2.2) : textR r = w := by
  unfold prsR at h
  split at h
  · rename_i p0 p1 hp
    have ew := spl_join 58 w
    rw [hp, join_two] at ew
    cases ha : numT p0 with
    | none => rw [ha] at h; cases h
    | some a =>
      rw [ha, Option.bind_some] at h
      have ea := numT_text ha
      have eq := spl_join 45 p1
      obtain ⟨Q, hq⟩ : ∃ Q, splL 45 p1 = Q := ⟨_, rfl⟩
      rw [hq] at h eq
      rcases Q with _ | ⟨q0, _ | ⟨q1, _ | ⟨q2, R⟩⟩⟩
      · simp [prsQ] at h
      · dsimp only [prsQ] at h
        cases hb : numT q0 with
        | none => rw [hb] at h; cases h
        | some b =>
          rw [hb, Option.bind_some] at h
          injection h with h
          have eb := numT_text hb
          rw [join_one] at eq
          subst h
          unfold textR
          dsimp only
          rw [if_neg (by omega), ea, eb, eq, List.append_nil, ew]
      · dsimp only [prsQ] at h
        rw [join_two] at eq
        cases hb : numT q0 with
        | none => rw [hb] at h; cases h
        | some b =>
          rw [hb, Option.bind_some] at h
          cases ht : numT q1 with
          | none => rw [ht] at h; cases h
          | some t =>
            rw [ht, Option.bind_some] at h
            split at h
            · cases h
            · rename_i hne
              injection h with h
              have eb := numT_text hb
              have et := numT_text ht
              subst h
              dsimp only at hg
              unfold textR
              dsimp only
              rw [if_pos (by omega), ea, eb, et, ← ew, ← eq]
              simp only [List.append_assoc]
      · simp [prsQ] at h
  · cases h
theorem prsL_text : ∀ (ws : List (List UInt8)) (c : List RunQ), prsL ws = some c → (∀ r ∈ c, goodR r = true) → c.map textR = ws := by
  intro ws
  induction ws with
  | nil => intro c h _; simp only [prsL, Option.some.injEq] at h; rw [← h]; rfl
  | cons x ws ih =>
    intro c h hg
    simp only [prsL] at h
    cases hx : prsR x with
    | none => rw [hx] at h; cases h
    | some r =>
      cases hws : prsL ws with
      | none => rw [hx, hws] at h; cases h
      | some c' =>
        rw [hx, hws] at h
        simp only [Option.bind_some, Option.map_some, Option.some.injEq] at h
        subst h
        have g := goodR_of.1 (hg r (by simp))
        rw [List.map_cons, prsR_text hx (by omega), ih c' hws (fun q hq => hg q (by simp [hq]))]
theorem prsR_of (r : RunQ) (h : goodR r = true) : prsR (textR r) = some r := by
  have g := goodR_of.1 h
  have d1 := fun c (hc : ¬ IsDig c) => not_dig hc (itoa_digs r.1 (by omega))
  have d2 := fun c (hc : ¬ IsDig c) => not_dig hc (itoa_digs r.2.1 (by omega))
  have d3 := fun c (hc : ¬ IsDig c) => not_dig hc (itoa_digs r.2.2 (by omega))
  have hrest : (58 : UInt8) ∉ restR r := by
    intro hm
    unfold restR at hm
    rcases List.mem_append.1 hm with hm | hm
    · exact d2 58 (by decide) hm
    · split at hm
      · rcases List.mem_append.1 hm with hm | hm
        · exact absurd (List.mem_singleton.1 hm) (by decide)
        · exact d3 58 (by decide) hm
      · cases hm
  have e : textR r = Lib.join [Lib.itoa r.1, restR r] [58] := by rw [join_two]; unfold textR restR; simp only [List.append_assoc]
  unfold prsR
  rw [e, spl_of 58 _ _ (by
    intro y hy
    simp only [List.mem_cons, List.not_mem_nil, or_false] at hy
    rcases hy with rfl | rfl
    · exact d1 58 (by decide)
    · exact hrest)]
  dsimp only
  rw [numT_itoa r.1 (by omega) (by omega), Option.bind_some]
  obtain ⟨rn, rf, rt⟩ := r
  dsimp only at g d1 d2 d3 ⊢
  by_cases hlt : rf < rt
  · have e2 : restR (rn, rf, rt) = Lib.join [Lib.itoa rf, Lib.itoa rt] [45] := by rw [join_two]; unfold restR; dsimp only; rw [if_pos hlt]; simp only [List.append_assoc]
    rw [e2, spl_of 45 _ _ (by
      intro y hy
      simp only [List.mem_cons, List.not_mem_nil, or_false] at hy
      rcases hy with rfl | rfl
      · exact d2 45 (by decide)
      · exact d3 45 (by decide))]
    dsimp only [prsQ]
    rw [numT_itoa rf (by omega) (by omega), Option.bind_some, numT_itoa rt (by omega) (by omega), Option.bind_some, if_neg (by omega), Int.toNat_of_nonneg (by omega), Int.toNat_of_nonneg (by omega), Int.toNat_of_nonneg (by omega)]
  · have e2 : restR (rn, rf, rt) = Lib.join [Lib.itoa rf] [45] := by rw [join_one]; unfold restR; dsimp only; rw [if_neg hlt, List.append_nil]
    rw [e2, spl_of 45 _ _ (by
      intro y hy
      simp only [List.mem_cons, List.not_mem_nil, or_false] at hy
      rw [hy]
      exact d2 45 (by decide))]
    dsimp only [prsQ]
    rw [numT_itoa rf (by omega) (by omega), Option.bind_some, Int.toNat_of_nonneg (by omega), Int.toNat_of_nonneg (by omega), show rf = rt by omega]
theorem prsL_of : ∀ (c : List RunQ), (∀ r ∈ c, goodR r = true) → prsL (c.map textR) = some c
  | [], _ => rfl
  | r :: c, h => by
    rw [List.map_cons]
    simp only [prsL]
    rw [prsR_of r (h r (by simp)), prsL_of c (fun q hq => h q (by simp [hq]))]
    rfl
theorem parT_iff (s : List UInt8) (c : List RunQ) : parT s = some c ↔ rightC c = true ∧ textC c = s := by
  unfold parT
  constructor
  · intro h
    split at h
    · rename_i hs
      injection h with h
      subst h
      exact ⟨rfl, by rw [hs]; rfl⟩
    · cases hp : prsL (splL 32 s) with
      | none => rw [hp] at h; cases h
      | some c' =>
        rw [hp, Option.bind_some] at h
        split at h
        · rename_i hr
          injection h with h
          subst h
          refine ⟨hr, ?_⟩
          have hl := prsL_len _ _ hp
          have h0 : c'.length ≠ 0 := by rw [hl]; unfold splL; simp
          unfold textC
          rw [if_pos hr, if_neg h0, prsL_text _ _ hp (right_good hr), spl_join]
        · cases h
  · rintro ⟨hr, rfl⟩
    by_cases h0 : c.length = 0
    · rw [List.length_eq_zero_iff.1 h0]; rfl
    · have hne : textC c ≠ [45] := fun e => textC_ne hr h0 (by rw [e])
      have e : textC c = Lib.join (c.map textR) [32] := by unfold textC; rw [if_pos hr, if_neg h0]
      have hg := right_good hr
      rw [if_neg hne, e]
      have hs : splL 32 (Lib.join (c.map textR) [32]) = c.map textR := by
        cases c with
        | nil => exact (h0 rfl).elim
        | cons q c =>
          rw [List.map_cons]
          exact spl_of 32 _ _ (fun y hy => by
            rw [← List.map_cons] at hy
            obtain ⟨z, hz, rfl⟩ := List.mem_map.1 hy
            exact textR_no z (hg z hz) 32 (by decide) (by decide) (by decide))
      rw [hs, prsL_of c hg, Option.bind_some, if_pos hr]
theorem parT_len {s : List UInt8} {c : List RunQ} (h : parT s = some c) : c.length ≤ s.length := by
  obtain ⟨hr, rfl⟩ := (parT_iff s c).1 h
  by_cases h0 : c.length = 0
  · omega
  · have e : textC c = Lib.join (c.map textR) [32] := by unfold textC; rw [if_pos hr, if_neg h0]
    rw [e]
    have hl : ∀ (xs : List (List UInt8)), xs.length ≤ (Lib.joinTail [32] xs).length := by
      intro xs
      induction xs with
      | nil => simp [Lib.joinTail]
      | cons x xs ih =>
        have e : Lib.joinTail [32] (x :: xs) = [32] ++ (x ++ Lib.joinTail [32] xs) := by simp [Lib.joinTail]
        rw [e, List.length_append, List.length_append, List.length_cons, List.length_singleton]
        omega
    cases c with
    | nil => exact (h0 rfl).elim
    | cons q c =>
      rw [List.map_cons, Lib.join_cons, List.length_append, List.length_cons]
      have h1 := hl (c.map textR)
      rw [List.length_map] at h1
      have h2 : 1 ≤ (textR q).length := by unfold textR; simp only [List.length_append, List.length_singleton]; omega
      omega

end Go.Proofs.YtbbfibgijackhaaGreatDoor

namespace Go.Proofs.YtbbfibgijackhaaGreatDoor
section
open Go.RowKit
def st (zs : List Int) : ByteArray := ⟨(zs.map fun z => UInt8.ofNat z.toNat).toArray⟩
theorem st_size (zs : List Int) : (st zs).size = zs.length := by simp [st, ByteArray.size]
theorem st_append (xs ys : List Int) : st (xs ++ ys) = st xs ++ st ys := by
  apply ByteArray.ext
  simp [st, ByteArray.data_append]
theorem conv_any {w : World} {v : Value} {zs : List Int} {S : Nat → Prop} (h : BySl S w v zs) : (convert 40 9 v).run Tryz.prog w = .ok (.string (st zs)) w := by
  obtain ⟨hz, ⟨⟨a, cap, rfl⟩, rfl⟩ | ⟨blk, off, cap, rfl, hc, hm, hb, _⟩⟩ := h
  · cases a with
    | none =>
      rw [run_convert_bytes_string w 40 9 5 none 0 cap Tryz.underlying40 Tryz.underlying5 Tryz.underlying9]
      simp [Conv.bytesToString, go_sem, st]
      rfl
    | some a => exact run_convert_bytes_back (P := Tryz.prog) w 40 9 5 a cap [] Tryz.underlying40 Tryz.underlying5 Tryz.underlying9 (fun j hj => by simp at hj)
  · have := run_convert_bytes_back (P := Tryz.prog) w 40 9 5 ⟨blk, off, none⟩ cap (zs.map fun z => UInt8.ofNat z.toNat) Tryz.underlying40 Tryz.underlying5 Tryz.underlying9 (fun j hj => by
      have hj' : j < zs.length := by simpa using hj
      have e := hb j hj'
      have r := hz j
      rw [List.getElem?_eq_getElem hj'] at e r
      simp only [Option.getD_some] at e r
      have ea : Addr.add ⟨blk, off, none⟩ j = ⟨blk, off + j, none⟩ := by unfold Addr.add; split <;> simp_all
      rw [ea, e]
      congr 2
      simp only [List.getElem_map, UInt8.toNat_ofNat']
      omega)
    rw [List.length_map] at this
    exact this
end
section
open Go.RowKit
theorem st_list (xs : List Int) : (st xs).toList = xs.map fun z => UInt8.ofNat z.toNat := ByteArray.toList_mk _
theorem byte_eq (a b : Int) (ha : 0 ≤ a ∧ a < 256) (hb : 0 ≤ b ∧ b < 256) : (UInt8.ofNat a.toNat = UInt8.ofNat b.toNat) ↔ a = b := by
  rw [← UInt8.toNat_inj, UInt8.toNat_ofNat', UInt8.toNat_ofNat']
  omega
theorem map_eq : ∀ (xs ys : List Int), IsBytes xs → IsBytes ys → (xs.map (fun z => UInt8.ofNat z.toNat) = ys.map (fun z => UInt8.ofNat z.toNat)) → xs = ys
  | [], [], _, _, _ => rfl
  | [], _ :: _, _, _, h => by simp at h
  | _ :: _, [], _, _, h => by simp at h
  | a :: x, b :: y, hx, hy, h => by
    rw [List.map_cons, List.map_cons, List.cons.injEq] at h
    rw [(byte_eq a b hx.head hy.head).1 h.1, map_eq x y hx.tail hy.tail h.2]
theorem st_beq (xs ys : List Int) (hx : IsBytes xs) (hy : IsBytes ys) : ((st xs).toList == (st ys).toList) = decide (xs = ys) := by
  rw [st_list, st_list]
  by_cases h : xs = ys
  · subst h; simp
  · rw [decide_eq_false h, beq_eq_false_iff_ne]
    exact fun e => h (map_eq xs ys hx hy e)
end
section
open Go.RowKit
theorem pow_le (a b : Nat) (h : a ≤ b) : (2 : Int) ^ a ≤ 2 ^ b := by
  have := Nat.pow_le_pow_right (n := 2) (by decide) h
  have e1 : ((2 ^ a : Nat) : Int) = 2 ^ a := Int.natCast_pow 2 a
  have e2 : ((2 ^ b : Nat) : Int) = 2 ^ b := Int.natCast_pow 2 b
  omega
theorem numBytes_head (u : Int) (h0 : 0 ≤ u) (h1 : u < 18446744073709551616) :
    (u ≤ 247 ∧ numBytes u = [u]) ∨ (247 < u ∧ 1 ≤ kOf u ∧ numBytes u = (247 + (kOf u : Int)) :: digits u (kOf u) (kOf u) ∧ (2 : Int) ^ (8 * (kOf u - 1)) ≤ u ∧ u < 2 ^ (8 * kOf u)) := by
  by_cases hu : u ≤ 247
  · exact .inl ⟨hu, by unfold numBytes; rw [if_pos hu]⟩
  · obtain ⟨k1, k2, k3⟩ := kOf_bounds u (by omega) h1
    exact .inr ⟨by omega, k1, by unfold numBytes; rw [if_neg hu]; rfl, k2, k3⟩
end
section
open Go.RowKit
theorem idx_any (zs : List Int) (w : World) (hz : IsBytes zs) (i : Nat) (hi : i < zs.length) :
    (Instr.index 9 (.string (st zs)) (.int .i64 i)).run Tryz.prog w = .ok (.int .u8 (zs[i]?.getD 0)) w := by
  rw [run_index_string (P := Tryz.prog) w 9 (st zs) .i64 i Tryz.underlying9, dif_pos ⟨by omega, by rw [st_size]; omega⟩]
  have h := hz i
  have e : ((st zs)[(i : Int).toNat]'(by rw [st_size]; omega)) = UInt8.ofNat (zs[i]?.getD 0).toNat := by
    show ((zs.map fun z => UInt8.ofNat z.toNat).toArray)[(i : Int).toNat]'_ = _
    rw [List.getElem?_eq_getElem hi]
    simp
  rw [e]
  congr 2
  rw [UInt8.toNat_ofNat']
  omega
theorem st_extract (zs : List Int) (n : Nat) : (st zs).extract n zs.length = st (zs.drop n) := by
  apply ByteArray.ext
  simp [st, ByteArray.data_extract]
  exact List.take_of_length_le (by simp)
theorem conv_one (w : World) (x : Int) (h0 : 0 ≤ x) (h1 : x < 256) :
    (convert 40 9 (.slice (some ⟨w.heap.size, 0, none⟩) 1 1)).run Tryz.prog (w.alloc (.cells #[.int .u8 x] 5)) = .ok (.string (st [x])) (w.alloc (.cells #[.int .u8 x] 5)) :=
  conv_any (BySl.lit w 5 [x] (by simpa using ⟨h0, h1⟩) (by show 1 ≤ maxLen; decide) Nb (fun h => h))
end
section
open Go.RowKit
def RnR (u : Int) (k : Nat) (w : World) (v s : Value) (wr : World) : Prop :=
  ∃ j : Nat, j ≤ k ∧ v = .int .u64 (u / 2 ^ (8 * j)) ∧ s = .string (st ((digits u k k).drop (k - j))) ∧ Hid (Kp Nb w wr)
theorem digits_get (u : Int) (k i : Nat) (hi : i < k) : (digits u k k)[i]?.getD 0 = digit u k i := by
  unfold digits
  simp [hi]
theorem digits_drop (u : Int) (k j : Nat) (hj : j < k) : (digits u k k).drop (k - (j + 1)) = u / 2 ^ (8 * j) % 256 :: (digits u k k).drop (k - j) := by
  have hl := digits_length u k k
  have hd := List.drop_eq_getElem_cons (l := digits u k k) (i := k - (j + 1)) (by omega)
  have hg := digits_get u k (k - (j + 1)) (by omega)
  rw [List.getElem?_eq_getElem (by omega), Option.getD_some] at hg
  rw [hd, hg, show k - (j + 1) + 1 = k - j from by omega]
  unfold digit
  rw [show k - 1 - (k - (j + 1)) = j from by omega]
set_option maxRecDepth 100000 in
set_option maxHeartbeats 400000 in
theorem refn_number (u : Int) (w : World) (h0 : 0 ≤ u) (h1 : u < 18446744073709551616) :
    Calls Tryz.prog 48 #[.int .u64 u] w fun e w' => e = .returned (.string (st (numBytes u))) ∧ Kp Nb w w' := by
  by_cases hle : u ≤ 247
  · have hc := fun w => conv_one w u h0 (by omega)
    have hn := hid (show numBytes u = [u] by unfold numBytes; rw [if_pos hle])
    go_enter Tryz.func48, Tryz.ntmps48
    go_wp2
    go_ret
    exact ⟨by rw [hn.out]; rfl, (Kp.refl Nb w).alloc _⟩
  · obtain ⟨k1, k2, k3⟩ := kOf_bounds u (by omega) h1
    have k8 := kOf_le u h1
    have hn := hid (show numBytes u = [247 + (kOf u : Int)] ++ digits u (kOf u) (kOf u) by unfold numBytes; rw [if_neg hle])
    obtain ⟨k, hk⟩ : ∃ k, k = kOf u := ⟨_, rfl⟩
    rw [← hk] at k1 k2 k3 k8 hn
    have K2 := hid k2
    have K3 := hid k3
    have H0 := hid h0
    clear hk k2 k3
    go_enter Tryz.func48, Tryz.ntmps48
    go_wp2
    go_loopw [0, 3] (RnR u k w) (fun v _ _ => (intOf v).toNat)
    case atStart => exact ⟨0, Nat.zero_le _, by simp, by rw [Nat.sub_zero, List.drop_of_length_le (by rw [digits_length]; exact Nat.le_refl _)]; rfl, Kp.refl Nb w⟩
    case round =>
      obtain ⟨j, hj, rfl, rfl, hkp⟩ := hrel
      by_cases hjk : j < k
      · have hp := pow_le (8 * j) (8 * (k - 1)) (by omega)
        have hpp : (0 : Int) < 2 ^ (8 * j) := Int.pow_pos (by decide)
        obtain ⟨X, hX⟩ : ∃ X, X = u / 2 ^ (8 * j) := ⟨_, rfl⟩
        have x0 : 1 ≤ X := by rw [hX]; exact (Int.le_ediv_iff_mul_le hpp).2 (by have := K2.out; omega)
        have x1 : X ≤ u := by rw [hX]; exact Int.ediv_le_self _ H0.out
        have x2 : X < 18446744073709551616 := by omega
        have xn : X / 256 = u / 2 ^ (8 * (j + 1)) := by
          rw [hX, Int.ediv_ediv_of_nonneg (Int.le_of_lt hpp), show (2 : Int) ^ (8 * (j + 1)) = 2 ^ (8 * j) * 256 from by rw [show 8 * (j + 1) = 8 * j + 8 from by omega, Int.pow_add]; rfl]
        have hs := digits_drop u k j hjk
        rw [← hX] at hs ⊢
        have hc := conv_one wr (X % 256) (by omega) (by omega)
        obtain ⟨S, hS⟩ : ∃ S, S = st ((digits u k k).drop (k - j)) := ⟨_, rfl⟩
        have hSz : S.size ≤ 8 := by rw [hS, st_size, List.length_drop, digits_length]; omega
        have hSt : Hid (st [X % 256] ++ S = st ((digits u k k).drop (k - (j + 1)))) := by rw [hs, hS]; unfold Hid; rw [← st_append]; rfl
        have g2 : ¬ (9223372036854775807 < (st [X % 256]).size + S.size) := by rw [st_size]; simp only [List.length_cons, List.length_nil]; omega
        have gx : 0 < X := by omega
        rw [← hS]
        have HR := hid (show RnR u k w (.int .u64 (X / 256)) (.string (st [X % 256] ++ S)) (wr.alloc (.cells #[.int .u8 (X % 256)] 5)) from ⟨j + 1, by omega, by rw [xn], by rw [hSt.out], hkp.out.alloc _⟩)
        have HM := hid (show (intOf (.int .u64 (X / 256))).toNat < (intOf (.int .u64 X)).toNat by simp only [intOf]; omega)
        clear hX hs hS hSt xn hpp hp x1
        go_wp2
        exact ⟨HR.out, HM.out⟩
      · obtain rfl : j = k := by omega
        have hz : u / 2 ^ (8 * j) = 0 := Int.ediv_eq_zero_of_lt H0.out K3.out
        rw [hz, Nat.sub_self, List.drop_zero]
        have hc := conv_one wr (247 + (j : Int)) (by omega) (by omega)
        have hsz : (st (digits u j j)).size = j := by rw [st_size, digits_length]
        have hSt := hid (show st [247 + (j : Int)] ++ st (digits u j j) = st (numBytes u) by rw [hn.out, st_append])
        obtain ⟨S, hS⟩ : ∃ S, S = st (digits u j j) := ⟨_, rfl⟩
        rw [← hS] at hsz hSt ⊢
        have g2 : ¬ (9223372036854775807 < (st [247 + (j : Int)]).size + S.size) := by rw [st_size, hsz]; simp only [List.length_cons, List.length_nil]; omega
        clear hS hz
        go_wp2
        go_ret
        exact ⟨by rw [← hSt.out]; rfl, hkp.out.alloc _⟩
end
section
open Go.RowKit
theorem st_take (zs : List Int) (n : Nat) : (st zs).extract 0 n = st (zs.take n) := by
  apply ByteArray.ext
  simp [st, ByteArray.data_extract]
end
section
open Go.RowKit
/-- The document's eye: what is left, the error. -/
def RefAt (w : World) (B : Nat) (zs : List Int) (e : Int) : Prop := Blk w B 50 [.string (st zs), .int .i64 e]
theorem RefAt.kept {S : Nat → Prop} {w w' : World} {B : Nat} {zs : List Int} {e : Int} (h : RefAt w B zs e) (k : Kp S w w') (hS : ¬ S B) : RefAt w' B zs e := Blk.kept h k hS
set_option maxHeartbeats 400000 in
theorem refi_fail (B : Nat) (zs : List Int) (e f : Int) (w : World) (h : RefAt w B zs e) :
    Calls Tryz.prog 53 #[.pointer (some ⟨B, 0, none⟩), .int .i64 f] w fun r w' => r = .returned (.tuple #[]) ∧ RefAt w' B (failS zs e f) (failE e f) ∧ Kp (Jb B) w w' := by
  have c1 := Blk.cell h 1
  have c0 := Blk.cell h 0
  simp only [List.getElem?_cons_zero, List.getElem?_cons_succ] at c0 c1
  have f0 := Blk.frozen h 0
  have f1 := Blk.frozen h 1
  have HB := hid h
  clear h
  by_cases h0 : e = 0
  · by_cases h1 : f = 0
    · have g1 : (f != 0) = false := by rw [bne_eq_false_iff_eq]; exact h1
      subst h0 h1
      go_enter Tryz.func53, Tryz.ntmps53
      go_wp2
      go_end0
      exact ⟨rfl, HB.out, Kp.refl _ _⟩
    · have HN := hid (show (e = 0 ∧ f ≠ 0) from ⟨h0, h1⟩)
      have g1 : (f != 0) = true := by rw [bne_iff_ne]; exact h1
      subst h0
      go_enter Tryz.func53, Tryz.ntmps53
      go_wp2
      go_end0
      refine ⟨rfl, ?_, ((Kp.refl (Jb B) w).set 1 _).set 0 _⟩
      have hf := HN.out.2
      simp only [failS, failE, ne_eq, hf, not_false_eq_true, and_true, if_true]
      exact (Blk.set HB.out 1 (.int .i64 f)).set 0 (.string (st []))
  · have HN := hid (show ¬ (e = 0 ∧ f ≠ 0) by omega)
    have g1 : (e == 0) = false := by rw [beq_eq_false_iff_ne]; exact h0
    go_enter Tryz.func53, Tryz.ntmps53
    go_wp2
    go_end0
    exact ⟨rfl, by unfold failS failE; rw [if_neg HN.out, if_neg HN.out]; exact HB.out, Kp.refl _ _⟩
theorem be_inj : ∀ (xs ys : List Int), IsBytes xs → IsBytes ys → xs.length = ys.length → beN xs = beN ys → xs = ys
  | [], [], _, _, _, _ => rfl
  | [], _ :: _, _, _, h, _ => by simp at h
  | _ :: _, [], _, _, h, _ => by simp at h
  | a :: x, b :: y, hx, hy, h, e => by
    have hl : x.length = y.length := by simpa using h
    have rx := beN_range x hx.tail
    have ry := beN_range y hy.tail
    have ih := be_inj x y hx.tail hy.tail hl
    rw [beN_cons, beN_cons, ← hl] at e
    rw [← hl] at ry
    obtain ⟨Q, hQ⟩ : ∃ Q : Int, Q = 256 ^ x.length := ⟨_, rfl⟩
    rw [← hQ] at rx ry e
    rcases Int.lt_trichotomy a b with h1 | h1 | h1
    · have : (a + 1) * Q ≤ b * Q := Int.mul_le_mul_of_nonneg_right (by omega) (by omega)
      rw [Int.add_mul] at this
      omega
    · subst h1
      rw [ih (by omega)]
    · have : (b + 1) * Q ≤ a * Q := Int.mul_le_mul_of_nonneg_right (by omega) (by omega)
      rw [Int.add_mul] at this
      omega
theorem first_back (zs : List Int) (hz : IsBytes zs) (k : Nat) (hk : zs[0]?.getD 0 = 247 + (k : Int)) (k1 : 1 ≤ k) (hl : 1 + k ≤ zs.length) :
    (numBytes (beTo (zs.drop 1) k) = zs.take (1 + k)) ↔ sizeN (beTo (zs.drop 1) k) = 1 + k := by
  have h0 := hz 0
  rw [hk] at h0
  have hr := beTo_range (zs.drop 1) k
  have hb := beTo_num (zs.drop 1) (hz.drop 1) k (by omega) (by rw [List.length_drop]; omega)
  obtain ⟨U, hU⟩ : ∃ U, U = beTo (zs.drop 1) k := ⟨_, rfl⟩
  rw [← hU] at hr hb ⊢
  refine ⟨fun e => ?_, fun e => ?_⟩
  · rw [← numBytes_size, e, List.length_take]; omega
  · rcases numBytes_head U hr.1 hr.2 with ⟨hu, eu⟩ | ⟨hu, ku, eu, lu, mu⟩
    · rw [← numBytes_size, eu] at e
      simp at e
      omega
    · have hs := e
      rw [← numBytes_size, eu, List.length_cons, digits_length] at hs
      have hkk : kOf U = k := by omega
      have ht : zs.take (1 + k) = (247 + (k : Int)) :: (zs.drop 1).take k := by
        cases zs with
        | nil => simp at hl
        | cons a r =>
          simp only [List.getElem?_cons_zero, Option.getD_some] at hk
          rw [Nat.add_comm, List.take_succ_cons, hk]
          rfl
      rw [eu, ht, hkk]
      congr 1
      have hd := digits_all U hr.1 (kOf U) mu
      rw [hkk] at hd
      rw [hb] at hd
      exact be_inj _ _ (digits_bytes _ _ _) ((hz.drop 1).take k) (by rw [digits_length, List.length_take, List.length_drop]; omega) (by rw [← hb]; rw [← hb] at hd; exact hd)
theorem sl_h (zs : List Int) (n : Nat) (hn : n ≤ zs.length) (w : World) : (Instr.slice 9 (.string (st zs)) none (some (.int .i64 (n : Int))) none).run Tryz.prog w = .ok (.string (st (zs.take n))) w := by
  rw [run_slice_string_h (P := Tryz.prog) w 9 (st zs) Tryz.underlying9 .i64 n (by omega) (by rw [st_size]; omega), Int.toNat_natCast, st_take]
theorem sl_l (zs : List Int) (n : Nat) (hn : n ≤ zs.length) (w : World) : (Instr.slice 9 (.string (st zs)) (some (.int .i64 (n : Int))) none none).run Tryz.prog w = .ok (.string (st (zs.drop n))) w := by
  rw [run_slice_string_l (P := Tryz.prog) w 9 (st zs) Tryz.underlying9 .i64 n (by omega) (by rw [st_size]; omega), Int.toNat_natCast, st_size, st_extract]
def RfR (ys : List Int) (k : Nat) (u i : Value) : Prop := ∃ j : Nat, j ≤ k ∧ i = .int .i64 ((j : Int) + 1) ∧ u = .int .u64 (beTo ys j)
theorem beTo_next (ys : List Int) (hy : IsBytes ys) (j : Nat) (hj : j < 8) (hl : j < ys.length) : IntKind.u64.wrap (IntKind.u64.wrap (beTo ys j * 256) + (ys[j]?.getD 0)) = beTo ys (j + 1) := by
  have hr := beN_range (ys.take j) (hy.take j)
  rw [List.length_take, Nat.min_eq_left (by omega), ← beTo_num ys hy j (by omega) (by omega)] at hr
  have hp : (256 : Int) ^ j ≤ 256 ^ 7 := by
    rw [pow_nat, pow_nat]
    have := Nat.pow_le_pow_right (n := 2) (by decide) (show 8 * j ≤ 8 * 7 by omega)
    omega
  have hq : (256 : Int) ^ 7 = 72057594037927936 := by decide
  have hx := hy j
  show _ = bits .or .u64 (IntKind.u64.wrap (beTo ys j * 256)) (ys[j]?.getD 0)
  rw [or_step _ _ hr.1 (by omega) hx.1 hx.2, IntKind.wrap_u64, IntKind.wrap_u64]
  omega
set_option maxRecDepth 100000 in
set_option maxHeartbeats 1000000 in
theorem refi_number (B : Nat) (zs : List Int) (e most : Int) (w : World) (h : RefAt w B zs e) (hz : IsBytes zs) :
    Calls Tryz.prog 52 #[.pointer (some ⟨B, 0, none⟩), .int .u64 most] w fun r w' => r = .returned (.int .u64 (readN zs e most).1) ∧ RefAt w' B (readN zs e most).2.1 (readN zs e most).2.2 ∧ Kp (Jb B) w w' := by
  have c1 := Blk.cell h 1
  have c0 := Blk.cell h 0
  simp only [List.getElem?_cons_zero, List.getElem?_cons_succ] at c0 c1
  have f0 := Blk.frozen h 0
  have H := hid h
  have HZ := hid hz
  clear h hz
  have hst := st_size zs
  obtain ⟨R, hR⟩ : ∃ R, R = readN zs e most := ⟨_, rfl⟩
  rw [← hR]
  have HR := hid hR
  clear hR
  unfold readN at HR
  by_cases he : e = 0
  · subst he
    have HR2 := HR.out.trans (if_neg (fun h => h rfl))
    unfold firstOf at HR2
    clear HR
    by_cases hl0 : zs.length = 0
    · rw [if_pos hl0] at HR2
      subst HR2
      have hl1 : (zs.length : Int) = 0 := by omega
      clear hl0
      go_enter Tryz.func52, Tryz.ntmps52
      go_wp2_with fail
      refine (refi_fail B zs 0 10 _ H.out).mono ?_
      rintro r w2 ⟨rfl, h2, k2⟩
      have H2 := hid h2
      have K2 := hid k2
      clear h2 k2
      go_wp2
      go_ret
      exact ⟨rfl, H2.out, K2.out⟩
    · rw [if_neg hl0] at HR2
      have hi0 : ∀ w, (Instr.index 9 (.string (st zs)) (.int .i64 0)).run Tryz.prog w = .ok (.int .u8 (zs[0]?.getD 0)) w := fun w => idx_any zs w HZ.out 0 (by omega)
      have hx := HZ.out 0
      have hpos : (0 : Int) < (zs.length : Int) := by omega
      have hpos2 : ¬ (zs.length : Int) = 0 := by omega
      have hpos3 : ¬ (zs.length : Int) < 1 := by omega
      have hw1 : IntKind.i64.wrap 1 = 1 := by decide
      by_cases hle : zs[0]?.getD 0 ≤ 247
      · rw [if_pos hle] at HR2
        obtain ⟨z, hzz⟩ : ∃ z, z = zs[0]?.getD 0 := ⟨_, rfl⟩
        rw [← hzz] at HR2 hi0 hx hle
        have HN : Hid (numBytes z = zs.take 1) := by
          unfold Hid numBytes
          rw [if_pos hle]
          cases zs with
          | nil => simp at hl0
          | cons a r => simpa using hzz
        simp only [ne_eq, not_true_eq_false, if_false] at HR2
        have HR := hid HR2
        clear HR2 hl0
        obtain ⟨S, hS⟩ : ∃ S, S = st zs := ⟨_, rfl⟩
        have H : Hid (Blk w B 50 [.string S, .int .i64 0]) := by rw [hS]; exact H
        have HS := hid hS
        have s1 : ∀ w, (Instr.slice 9 (.string S) none (some (.int .i64 1)) none).run Tryz.prog w = .ok (.string (st (zs.take 1))) w := fun w => by rw [hS]; exact sl_h zs 1 (by omega) w
        have s2 : ∀ w, (Instr.slice 9 (.string S) (some (.int .i64 1)) none none).run Tryz.prog w = .ok (.string (st (zs.drop 1))) w := fun w => by rw [hS]; exact sl_l zs 1 (by omega) w
        have CN : Hid (∀ w, Calls Tryz.prog 48 #[.int .u64 z] w fun e w' => e = .returned (.string (st (zs.take 1))) ∧ Kp Nb w w') := fun w => by rw [← HN.out]; exact refn_number z w (by omega) (by omega)
        obtain ⟨T, hT⟩ : ∃ T, T = st (zs.take 1) := ⟨_, rfl⟩
        rw [← hT] at s1 CN
        rw [← hS] at c0 hst hi0
        clear hS hT hzz
        go_enter Tryz.func52, Tryz.ntmps52
        go_wp2
        refine wp_loop_rounds 1 ?_
        rw [rounds_succ]
        go_wp2_with fail
        go_region_held3 (fun w' => w'.cell? ⟨B, 0, none⟩ = some (.string S))
          (first | exact c0 | exact Kp.cell kh.out c0 (fun h => h))
          (first
            | (go_at_call 48; refine (CN.out _).mono ?_; rintro e wy ⟨rfl, k'⟩; have kh := hid (Kp.trans (S := Nb) (Kp.drew (Kp.refl Nb w)) k' (fun _ _ h => h)); clear k'))
        have HY := hid (Blk.kept H.out kh.out (fun h => h))
        have KY := hid (kh.out.mono (S' := Jb B) (fun _ _ h => absurd h (fun h => h)))
        have d0 := Blk.cell HY.out 0
        simp only [List.getElem?_cons_zero] at d0
        have g0 := Blk.frozen HY.out 0
        by_cases hm : most < z
        · have HR2 := HR.out
          rw [if_pos hm] at HR2
          subst HR2
          clear HR
          have HY' : Hid (RefAt wy B zs 0) := by rw [HS.out] at HY; exact HY
          go_wp2_with fail
          refine (refi_fail B zs 0 12 _ HY'.out).mono ?_
          rintro r w2 ⟨rfl, h2, k2⟩
          have H2 := hid h2
          have K2 := hid (KY.out.trans k2 (fun _ _ h => h))
          clear h2 k2
          go_wp2
          go_ret
          exact ⟨rfl, H2.out, K2.out⟩
        · have HR2 := HR.out
          rw [if_neg hm] at HR2
          subst HR2
          clear HR
          go_wp2
          go_ret
          exact ⟨rfl, Blk.set HY.out 0 _, KY.out.set 0 _⟩
      · obtain ⟨k, hk⟩ : ∃ k : Nat, zs[0]?.getD 0 = 247 + (k : Int) := ⟨(zs[0]?.getD 0 - 247).toNat, by omega⟩
        have ek : (247 + (k : Int) - 247).toNat = k := by omega
        rw [if_neg hle, hk, ek] at HR2
        rw [hk] at hi0 hx hle
        have h1k : 1 ≤ k := by omega
        have h8k : k ≤ 8 := by omega
        by_cases hlt : zs.length < 1 + k
        · rw [if_pos hlt] at HR2
          subst HR2
          clear hk
          go_enter Tryz.func52, Tryz.ntmps52
          go_wp2_with fail
          refine (refi_fail B zs 0 10 _ H.out).mono ?_
          rintro r w2 ⟨rfl, h2, k2⟩
          have H2 := hid h2
          have K2 := hid k2
          clear h2 k2
          go_wp2
          go_ret
          exact ⟨rfl, H2.out, K2.out⟩
        · rw [if_neg hlt] at HR2
          have HFB := hid (first_back zs HZ.out k hk h1k (by omega))
          obtain ⟨ys, hys⟩ : ∃ ys, ys = zs.drop 1 := ⟨_, rfl⟩
          have hyl : ys.length = zs.length - 1 := by rw [hys, List.length_drop]
          have HYB : Hid (IsBytes ys) := by rw [hys]; exact HZ.out.drop 1
          have HYS := hid hys
          rw [← hys] at HR2 HFB
          have HR := hid HR2
          obtain ⟨S, hS⟩ : ∃ S, S = st zs := ⟨_, rfl⟩
          have H : Hid (Blk w B 50 [.string S, .int .i64 0]) := by rw [hS]; exact H
          have HS := hid hS
          have s1 : ∀ w, (Instr.slice 9 (.string S) none (some (.int .i64 (1 + (247 + (k : Int) - 247)))) none).run Tryz.prog w = .ok (.string (st (zs.take (1 + k)))) w := fun w => by rw [hS, show (1 + (247 + (k : Int) - 247)) = ((1 + k : Nat) : Int) by omega]; exact sl_h zs (1 + k) (by omega) w
          have s2 : ∀ w, (Instr.slice 9 (.string S) (some (.int .i64 (1 + (247 + (k : Int) - 247)))) none none).run Tryz.prog w = .ok (.string (st (zs.drop (1 + k)))) w := fun w => by rw [hS, show (1 + (247 + (k : Int) - 247)) = ((1 + k : Nat) : Int) by omega]; exact sl_l zs (1 + k) (by omega) w
          have hxi : ∀ (j : Nat), j < k → ∀ w, (Instr.index 9 (.string S) (.int .i64 ((j : Int) + 1))).run Tryz.prog w = .ok (.int .u8 (ys[j]?.getD 0)) w := fun j hj w => by
            have := idx_any zs w HZ.out (1 + j) (by omega)
            rw [hS, hys, List.getElem?_drop, show ((j : Int) + 1) = ((1 + j : Nat) : Int) by omega]
            exact this
          have HXI := hid hxi
          obtain ⟨T, hT⟩ : ∃ T, T = st (zs.take (1 + k)) := ⟨_, rfl⟩
          have HT := hid hT
          rw [← hT] at s1
          rw [← hS] at c0 hst hi0
          have hwk : IntKind.i64.wrap (1 + (247 + (k : Int) - 247)) = 1 + (247 + (k : Int) - 247) := IntWalk.i64_in _ (by omega)
          have hlk : ¬ (zs.length : Int) < 1 + (247 + (k : Int) - 247) := by omega
          have hkk : ¬ (247 + (k : Int) - 247) = 0 := by omega
          clear hS hys hk hlt HR2 hxi hT
          go_enter Tryz.func52, Tryz.ntmps52
          go_wp2
          go_loop [6, 7] (RfR ys k) (fun _ i => k + 1 - (intOf i).toNat)
          case atStart => exact ⟨0, Nat.zero_le _, rfl, rfl⟩
          case round =>
            obtain ⟨j, hj, rfl, rfl⟩ := hrel
            by_cases hjk : j < k
            · have hxj := HXI.out j hjk
              have hyj := HYB.out j
              have hnext := beTo_next ys HYB.out j (by omega) (by omega)
              obtain ⟨X, hX⟩ : ∃ X, X = ys[j]?.getD 0 := ⟨_, rfl⟩
              rw [← hX] at hxj hyj hnext
              clear hX
              have HRel := hid (show RfR ys k (.int .u64 (IntKind.u64.wrap (IntKind.u64.wrap (beTo ys j * 256) + X))) (.int .i64 ((j : Int) + 1 + 1)) from ⟨j + 1, by omega, by go_num, by rw [hnext]⟩)
              have hbr := beTo_range ys j
              have gj : (j : Int) + 1 ≤ 247 + (k : Int) - 247 := by omega
              clear hnext
              go_wp2
              exact ⟨HRel.out, by simp [intOf]; omega⟩
            · obtain rfl : j = k := by omega
              have hbr := beTo_range ys j
              have gj : ¬ ((j : Int) + 1 ≤ 247 + (j : Int) - 247) := by omega
              obtain ⟨U, hU⟩ : ∃ U, U = beTo ys j := ⟨_, rfl⟩
              rw [← hU] at hbr HR HFB ⊢
              by_cases hs : sizeN U = 1 + j
              · have HR2 := HR.out
                rw [if_pos hs] at HR2
                simp only [ne_eq, not_true_eq_false, if_false] at HR2
                have CN : Hid (∀ w, Calls Tryz.prog 48 #[.int .u64 U] w fun e w' => e = .returned (.string T) ∧ Kp Nb w w') := fun w => by rw [HT.out, ← HFB.out.2 hs]; exact refn_number U w hbr.1 hbr.2
                clear hU HFB HXI HYB hi0
                go_wp2_with fail
                go_region_held3 (fun w' => w'.cell? ⟨B, 0, none⟩ = some (.string S))
                  (first | exact c0 | exact Kp.cell kh.out c0 (fun h => h))
                  (first
                    | (go_at_call 48; refine (CN.out _).mono ?_; rintro e wy ⟨rfl, k'⟩; have kh := hid (Kp.trans (S := Nb) (Kp.drew (Kp.refl Nb w)) k' (fun _ _ h => h)); clear k'))
                have HY := hid (Blk.kept H.out kh.out (fun h => h))
                have KY := hid (kh.out.mono (S' := Jb B) (fun _ _ h => absurd h (fun h => h)))
                have d0 := Blk.cell HY.out 0
                simp only [List.getElem?_cons_zero] at d0
                have g0 := Blk.frozen HY.out 0
                by_cases hm : most < U
                · rw [if_pos hm] at HR2
                  subst HR2
                  clear HR
                  have HY' : Hid (RefAt wy B zs 0) := by rw [HS.out] at HY; exact HY
                  go_wp2_with fail
                  refine (refi_fail B zs 0 12 _ HY'.out).mono ?_
                  rintro r w2 ⟨rfl, h2, k2⟩
                  have H2 := hid h2
                  have K2 := hid (KY.out.trans k2 (fun _ _ h => h))
                  clear h2 k2
                  go_wp2
                  go_ret
                  exact ⟨rfl, H2.out, K2.out⟩
                · rw [if_neg hm] at HR2
                  subst HR2
                  clear HR
                  go_wp2
                  go_ret
                  exact ⟨rfl, Blk.set HY.out 0 _, KY.out.set 0 _⟩
              · have HR2 := HR.out
                rw [if_neg hs] at HR2
                subst HR2
                have hne : ¬ numBytes U = zs.take (1 + j) := fun e => hs (HFB.out.1 e)
                have hxx : ((st (numBytes U)).toList == T.toList) = false := by
                  rw [HT.out, st_beq _ _ (numBytes_bytes U hbr.1 hbr.2) (HZ.out.take _), decide_eq_false hne]
                have CN : Hid (∀ w, Calls Tryz.prog 48 #[.int .u64 U] w fun e w' => e = .returned (.string (st (numBytes U))) ∧ Kp Nb w w') := fun w => refn_number U w hbr.1 hbr.2
                obtain ⟨SU, hSU⟩ : ∃ SU, SU = st (numBytes U) := ⟨_, rfl⟩
                rw [← hSU] at hxx CN
                clear hU HFB HXI HYB hi0 HR hSU hne hs
                go_wp2_with fail
                go_region_held3 (fun w' => w'.cell? ⟨B, 0, none⟩ = some (.string S))
                  (first | exact c0 | exact Kp.cell kh.out c0 (fun h => h))
                  (first
                    | (go_at_call 48; refine (CN.out _).mono ?_; rintro e wy ⟨rfl, k'⟩; have kh := hid (Kp.trans (S := Nb) (Kp.drew (Kp.refl Nb w)) k' (fun _ _ h => h)); clear k'))
                have HY := hid (Blk.kept H.out kh.out (fun h => h))
                have KY := hid (kh.out.mono (S' := Jb B) (fun _ _ h => absurd h (fun h => h)))
                have HY' : Hid (RefAt wy B zs 0) := by rw [HS.out] at HY; exact HY
                go_wp2_with fail
                refine (refi_fail B zs 0 11 _ HY'.out).mono ?_
                rintro r w2 ⟨rfl, h2, k2⟩
                have H2 := hid h2
                have K2 := hid (KY.out.trans k2 (fun _ _ h => h))
                clear h2 k2
                go_wp2
                go_ret
                exact ⟨rfl, H2.out, K2.out⟩
  · have HR2 := HR.out.trans (if_pos he)
    subst HR2
    clear HR
    have g1 : (e != 0) = true := by rw [bne_iff_ne]; exact he
    clear he
    go_enter Tryz.func52, Tryz.ntmps52
    go_wp2
    go_ret
    exact ⟨rfl, H.out, Kp.refl _ _⟩
end

end Go.Proofs.YtbbfibgijackhaaGreatDoor

namespace Go.Proofs.YtbbfibgijackhaaGreatDoor
open Go.RowKit

theorem st_one (m : Nat) : st [48 + (m : Int) % 10] = bs [UInt8.ofNat (48 + m % 10)] := by
  have e : (48 + (m : Int) % 10).toNat = 48 + m % 10 := by omega
  unfold st
  rw [List.map_cons, List.map_nil, e]
theorem bs_append (a b : List UInt8) : bs a ++ bs b = bs (a ++ b) := by
  apply ByteArray.ext
  simp [ByteArray.data_append]
theorem bs_size (a : List UInt8) : (bs a).size = a.length := by simp [ByteArray.size]
def RdgR (n : Nat) (w : World) (v s : Value) (wr : World) : Prop := ∃ (m : Nat) (S : List UInt8), v = .int .i64 (m : Int) ∧ s = .string (bs S) ∧ Hid (Lib.decDigits n = Lib.decDigits m ++ S) ∧ m ≤ n ∧ Hid (Kp Nb w wr)
set_option maxRecDepth 100000 in
set_option maxHeartbeats 1000000 in
theorem rdigits_any (n : Int) (w : World) (h0 : 0 ≤ n) (h1 : n < 9223372036854775808) :
    Calls Tryz.prog 61 #[.int .i64 n] w fun e w' => e = .returned (.string (bs (Lib.itoa n))) ∧ Kp Nb w w' := by
  obtain ⟨N, rfl⟩ : ∃ N : Nat, n = (N : Int) := ⟨n.toNat, by omega⟩
  have HL : Hid ((Lib.decDigits N).length ≤ 25) := hid (by
    have := itoa_len (N : Int) ⟨by omega, h1⟩
    rw [itoa_pos _ h0, Int.toNat_natCast] at this
    exact this)
  have HI : Hid (Lib.itoa (N : Int) = Lib.decDigits N) := hid (by rw [itoa_pos _ h0, Int.toNat_natCast])
  rw [HI.out]
  go_enter Tryz.func61, Tryz.ntmps61
  go_wp2
  go_loopw [0, 3] (RdgR N w) (fun v _ _ => (intOf v).toNat)
  case atStart => exact ⟨N, [], rfl, rfl, hid (by rw [List.append_nil]), Nat.le_refl _, hid (Kp.refl Nb w)⟩
  case round =>
    obtain ⟨m, S, rfl, rfl, HD, hm, HK⟩ := hrel
    have hc := conv_one wr (48 + (m : Int) % 10) (by omega) (by omega)
    have HS : Hid (S.length ≤ 25) := hid (by have h := HL.out; rw [HD.out, List.length_append] at h; omega)
    have HA : Hid (st [48 + (m : Int) % 10] ++ bs S = bs (UInt8.ofNat (48 + m % 10) :: S)) := hid (by rw [st_one, bs_append]; rfl)
    have hsz : (bs S).size ≤ 25 := by rw [bs_size]; exact HS.out
    have g2 : ¬ (9223372036854775807 < (st [48 + (m : Int) % 10]).size + (bs S).size) := by rw [st_size]; simp only [List.length_cons, List.length_nil]; omega
    obtain ⟨T, hT⟩ : ∃ T, bs S = T := ⟨_, rfl⟩
    by_cases hgt : 9 < m
    · have HD2 : Hid (Lib.decDigits N = Lib.decDigits (m / 10) ++ (UInt8.ofNat (48 + m % 10) :: S)) := hid (by
        rw [HD.out]
        conv => lhs; rw [Lib.decDigits]
        rw [dif_neg (by omega), List.append_assoc]
        rfl)
      have gx : (m : Int) > 9 := by omega
      have HR := hid (show RdgR N w (.int .i64 ((m : Int) / 10)) (.string (st [48 + (m : Int) % 10] ++ bs S)) (wr.alloc (.cells #[.int .u8 (48 + (m : Int) % 10)] 5)) from ⟨m / 10, _, by rw [Int.natCast_ediv]; rfl, by rw [HA.out], HD2, by omega, hid (HK.out.alloc _)⟩)
      have HM := hid (show (intOf (.int .i64 ((m : Int) / 10))).toNat < (intOf (.int .i64 (m : Int))).toNat by simp only [intOf]; omega)
      rw [hT] at HR HA hsz g2 ⊢
      clear hT HD2 HD HS
      go_wp2
      exact ⟨HR.out, HM.out⟩
    · have HE : Hid (UInt8.ofNat (48 + m % 10) :: S = Lib.decDigits N) := hid (by
        rw [HD.out]
        conv => rhs; rw [Lib.decDigits]
        rw [dif_pos (by omega), Nat.mod_eq_of_lt (by omega)]
        rfl)
      have gx : ¬ ((m : Int) > 9) := by omega
      have em : (m : Int) % 10 = (m : Int) := by omega
      rw [em] at hc g2 HA
      rw [HE.out] at HA
      rw [hT] at HA hsz g2 ⊢
      clear hT HE HD HS
      go_wp2
      go_ret
      exact ⟨by rw [← HA.out]; rfl, HK.out.alloc _⟩

def textD (a b : Int) : List UInt8 := Lib.itoa a ++ [58] ++ Lib.itoa b
set_option maxRecDepth 100000 in
set_option maxHeartbeats 2000000 in
theorem rdot_any (a b : Int) (w : World) (ha : 0 ≤ a) (ha1 : a < 9223372036854775808) (hb : 0 ≤ b) (hb1 : b < 9223372036854775808) :
    Calls Tryz.prog 60 #[.agg #[.int .i64 a, .int .i64 b]] w fun e w' => e = .returned (.string (bs (textD a b))) ∧ Kp Nb w w' := by
  obtain ⟨N, hN⟩ : ∃ N, w.heap.size = N := ⟨_, rfl⟩
  obtain ⟨W, hW⟩ : ∃ W, W = w.alloc (.cells #[.int .i64 a, .int .i64 b] 25) := ⟨_, rfl⟩
  have HB0 : Hid (Blk W N 25 [.int .i64 a, .int .i64 b]) := hid (by rw [hW, ← hN]; exact Blk.new w _ _)
  have K0 : Hid (Kp Nb w W) := hid (by rw [hW]; exact (Kp.refl Nb w).alloc _)
  obtain ⟨sn, hsn⟩ : ∃ t, bs (Lib.itoa a) = t := ⟨_, rfl⟩
  obtain ⟨sf, hsf⟩ : ∃ t, bs (Lib.itoa b) = t := ⟨_, rfl⟩
  obtain ⟨s1, hs1⟩ : ∃ t, bs (Lib.itoa a ++ [58]) = t := ⟨_, rfl⟩
  obtain ⟨s2, hs2⟩ : ∃ t, bs (textD a b) = t := ⟨_, rfl⟩
  have L1 := itoa_len a ⟨by omega, ha1⟩
  have L2 := itoa_len b ⟨by omega, hb1⟩
  have A1 : Hid (∀ w : World, (Op.stringOp .add sn ⟨#[58]⟩).run Tryz.prog w = .ok (.string s1) w) := hid (fun w => by rw [← hsn, ← hs1]; exact add_bs w _ [58] (by omega) (by decide))
  have A2 : Hid (∀ w : World, (Op.stringOp .add s1 sf).run Tryz.prog w = .ok (.string s2) w) := hid (fun w => by rw [← hs1, ← hsf, ← hs2]; exact add_bs w _ _ (by rw [List.length_append]; simp only [List.length_singleton]; omega) (by omega))
  have C1 : Hid (∀ wx, Calls Tryz.prog 61 #[.int .i64 a] wx fun e w' => e = .returned (.string sn) ∧ Kp Nb wx w') := hid (fun wx => by rw [← hsn]; exact rdigits_any a wx ha ha1)
  have C2 : Hid (∀ wx, Calls Tryz.prog 61 #[.int .i64 b] wx fun e w' => e = .returned (.string sf) ∧ Kp Nb wx w') := hid (fun wx => by rw [← hsf]; exact rdigits_any b wx hb hb1)
  rw [hs2]
  clear ha ha1 hb hb1 hsn hsf hs1 hs2 L1 L2
  go_enter Tryz.func60, Tryz.ntmps60
  go_upto_region 1 with fail
  rw [← hW]
  clear hW hN
  refine region_vals2 [none, none, some 8, some 0, some 1, some 2, some 3, some 4, some 5, some 6, some 7] [[(1, none)], [(3, some 0)], [(4, some 1)], [(5, some 2)], [(1, none)], [(7, some 4)], [(8, some 5)], [(6, some 3), (9, some 6)], [(10, some 7)]] [some 3, some 4, some 5, some 6, some 7, some 8, some 9, some 10, some 2] [.pointer (some ⟨N, 0, none⟩), .int .i64 a, .string sn, .string s1, .pointer (some ⟨N, 1, none⟩), .int .i64 b, .string sf, .string s2, .string s2] (fun w' => Hid (Kp Nb W w')) (by kernel_rfl) (by kernel_rfl) (by kernel_rfl) ?hS (VFrom.all (n := 9) (by kernel_rfl) ?hstep) ?hend
  case hstep =>
    refine VFrom.cons (VStep.val _ rfl _ rfl (.pointer (some ⟨N, 0, none⟩)) rfl trivial (fun ev wq hS he hr => ?_)) ?_
    · have r0 : ev (.tmp 1) = .pointer (some ⟨N, 0, none⟩) := hr (1, none) (by simp); have hk := he.1; clear hr he
      go_simp
    refine VFrom.cons (VStep.val _ rfl _ rfl (.int .i64 a) rfl trivial (fun ev wq hS he hr => ?_)) ?_
    · have r0 : ev (.tmp 3) = .pointer (some ⟨N, 0, none⟩) := hr (3, some 0) (by simp); have hk := he.1; clear hr he
      have c0 := (HB0.out.kept hS.out (fun h => h)).cell 0
      go_simp
    refine VFrom.cons (VStep.call _ rfl _ rfl (.string sn) rfl trivial 61 #[.int .i64 a] (fun ev wq hS he hr => ?_) (fun wq hS => ?_)) ?_
    · have r0 : ev (.tmp 4) = .int .i64 a := hr (4, some 1) (by simp); have hk := he.1; have hf := he.2; clear hr he
      go_simp
    · exact (C1.out wq).mono fun e w' ⟨h1, h2⟩ => ⟨h1, hS.out.trans h2 (fun _ _ h => h)⟩
    refine VFrom.cons (VStep.val _ rfl _ rfl (.string s1) rfl trivial (fun ev wq hS he hr => ?_)) ?_
    · have r0 : ev (.tmp 5) = .string sn := hr (5, some 2) (by simp); have hk := he.1; clear hr he
      have e1 := A1.out wq
      go_simp
    refine VFrom.cons (VStep.val _ rfl _ rfl (.pointer (some ⟨N, 1, none⟩)) rfl trivial (fun ev wq hS he hr => ?_)) ?_
    · have r0 : ev (.tmp 1) = .pointer (some ⟨N, 0, none⟩) := hr (1, none) (by simp); have hk := he.1; clear hr he
      go_simp
    refine VFrom.cons (VStep.val _ rfl _ rfl (.int .i64 b) rfl trivial (fun ev wq hS he hr => ?_)) ?_
    · have r0 : ev (.tmp 7) = .pointer (some ⟨N, 1, none⟩) := hr (7, some 4) (by simp); have hk := he.1; clear hr he
      have c0 := (HB0.out.kept hS.out (fun h => h)).cell 1
      go_simp
    refine VFrom.cons (VStep.call _ rfl _ rfl (.string sf) rfl trivial 61 #[.int .i64 b] (fun ev wq hS he hr => ?_) (fun wq hS => ?_)) ?_
    · have r0 : ev (.tmp 8) = .int .i64 b := hr (8, some 5) (by simp); have hk := he.1; have hf := he.2; clear hr he
      go_simp
    · exact (C2.out wq).mono fun e w' ⟨h1, h2⟩ => ⟨h1, hS.out.trans h2 (fun _ _ h => h)⟩
    refine VFrom.cons (VStep.val _ rfl _ rfl (.string s2) rfl trivial (fun ev wq hS he hr => ?_)) ?_
    · have r0 : ev (.tmp 6) = .string s1 := hr (6, some 3) (by simp); have r1 : ev (.tmp 9) = .string sf := hr (9, some 6) (by simp); have hk := he.1; clear hr he
      have e1 := A2.out wq
      go_simp
    refine VFrom.cons (VStep.val _ rfl _ rfl (.string s2) rfl trivial (fun ev wq hS he hr => ?_)) ?_
    · have r0 : ev (.tmp 10) = .string s2 := hr (10, some 7) (by simp); have hk := he.1; clear hr he
      go_simp
    exact VFrom.nil
  case hS => exact hid ((Kp.refl Nb W).drew)
  case hend =>
    intro w5 h5
    have K5 := hid (K0.out.trans h5.out (fun _ _ h => h))
    clear h5 K0 C1 C2 A1 A2 HB0
    simp only [putAll, List.zip_cons_cons, List.zip_nil_right, List.foldl_cons, List.foldl_nil, Act.put, List.setIfInBounds_toArray, List.set_cons_zero, List.set_cons_succ]
    go_wp2
    go_ret
    exact ⟨rfl, K5.out⟩

theorem join_snoc (sep : UInt8) (xs : List (List UInt8)) (y : List UInt8) (h : xs ≠ []) : Lib.join (xs ++ [y]) [sep] = Lib.join xs [sep] ++ [sep] ++ y := by
  obtain ⟨d, u, rfl⟩ := snoc_of xs h
  rw [jn_join, jn_join]
  unfold jnL
  simp
def preT (c : List RunQ) (k : Nat) : List UInt8 := Lib.join ((c.take k).map textR) [32]
theorem preT_step (c : List RunQ) (k : Nat) (hk : k < c.length) : preT c (k + 1) = (if 0 < k then preT c k ++ [32] else []) ++ textR (runAt c k) := by
  unfold preT
  rw [take_snocR c k hk, List.map_append, List.map_cons, List.map_nil]
  by_cases h : 0 < k
  · rw [if_pos h, join_snoc]
    intro e
    have := congrArg List.length e
    rw [List.length_map, List.length_take, List.length_nil] at this
    omega
  · have : k = 0 := by omega
    subst this
    rw [if_neg (by omega), List.take_zero, List.map_nil, List.nil_append, join_one, List.nil_append]
theorem preT_len (c : List RunQ) (k : Nat) (h : ∀ q ∈ c, RunOk q) : (preT c k).length ≤ k * 78 := by
  have := join_len [32] ((c.take k).map textR) (fun x hx => by
    obtain ⟨q, hq, rfl⟩ := List.mem_map.1 hx
    exact textR_len q (h q (List.mem_of_mem_take hq)))
  rw [List.length_map, List.length_take] at this
  simp only [List.length_singleton] at this
  have h2 : min k c.length * (1 + 77) ≤ k * (1 + 77) := Nat.mul_le_mul_right _ (Nat.min_le_left _ _)
  unfold preT
  omega
def RtxR (w : World) (c : List RunQ) (i s : Value) (wr : World) : Prop := ∃ k : Nat, k ≤ c.length ∧ i = .int .i64 k ∧ s = .string (bs (preT c k)) ∧ Hid (Kp Nb w wr)
set_option maxRecDepth 100000 in
set_option maxHeartbeats 8000000 in
theorem rtext_any (v : Value) (c : List RunQ) (w : World) (hs : ClSl w v c) (hl : c.length ≤ 1000) :
    Calls Tryz.prog 38 #[v] w fun e w' => e = .returned (.string (bs (textC c))) ∧ Kp Nb w w' := by
  obtain ⟨pv, dv, rfl⟩ := hs.shape
  obtain ⟨L, hL⟩ : ∃ L, c.length = L := ⟨_, rfl⟩
  have HLE := hid hL
  rw [hL] at hs hl ⊢
  have HS := hid hs
  have hLb := hl
  obtain ⟨R, hR⟩ : ∃ b, rightC c = b := ⟨_, rfl⟩
  have HRR := hid hR
  have CR : Hid (Calls Tryz.prog 10 #[.slice pv L dv] w fun e w' => e = .returned (.bool R) ∧ Kp Nb w w') := hid (by rw [← hR]; exact rright_any _ c w hs (by omega))
  have HT : Hid (textC c = if R then (if L = 0 then [45] else preT c L) else []) := hid (by
    unfold textC preT
    rw [hR, hL, ← hL, List.take_length])
  obtain ⟨Z, hZ⟩ : ∃ z, bs (textC c) = z := ⟨_, rfl⟩
  have HZE : Hid (Z = bs (if R then (if L = 0 then [45] else preT c L) else [])) := hid (by rw [← hZ, HT.out])
  rw [hZ]
  clear hs hL hl hR HT hZ
  go_enter Tryz.func38, Tryz.ntmps38
  go_wp2_with fail
  refine CR.out.mono ?_
  rintro r w1 ⟨rfl, k1⟩
  have K1 := hid k1
  clear k1 CR
  cases R with
  | false =>
    go_wp2
    go_ret
    exact ⟨by rw [HZE.out]; rfl, K1.out⟩
  | true =>
    by_cases h0 : L = 0
    · subst h0
      go_wp2
      go_ret
      exact ⟨by rw [HZE.out]; rfl, K1.out⟩
    · have HZF : Hid (Z = bs (preT c L)) := hid (by rw [HZE.out, if_pos rfl, if_neg h0])
      have HG : Hid (∀ q ∈ c, goodR q = true) := hid (right_good HRR.out)
      have HOKS : Hid (∀ q ∈ c, RunOk q) := hid (fun q hq => by have := goodR_of.1 (HG.out q hq); unfold RunOk I64; omega)
      have T0 : Hid (Kp Nb w w1) := K1
      have hgt : ¬ ((L : Int) = 0) := by omega
      clear HRR
      have hLe : ((L : Int) == 0) = false := by rw [beq_eq_false_iff_ne]; exact hgt
      go_wp2_with fail
      clear hLe
      go_loopw [14, 3] (RtxR w c) (fun i _ _ => L - (intOf i).toNat)
      case atStart => exact ⟨0, Nat.zero_le _, rfl, rfl, T0⟩
      case round =>
        clear T0 K1
        obtain ⟨k, hk, rfl, rfl, HK⟩ := hrel
        rw [HLE.out] at hk
        by_cases hlt : k < L
        · obtain ⟨blk, off, cap, e1, hc, hm, hcell⟩ := cl_shape (HS.out.kept HK.out) (by intro h; have := HLE.out; rw [h, List.length_nil] at this; omega)
          rw [HLE.out] at e1 hc hcell
          injection e1 with e1 _ e2
          subst e1 e2
          have HR := hid (hcell k hlt)
          obtain ⟨⟨qn, qf, qt⟩, hq⟩ : ∃ q, runAt c k = q := ⟨_, rfl⟩
          have HOK := HS.out.1 k
          rw [hq] at HR HOK
          have HQ := hid hq
          obtain ⟨M, hM⟩ : ∃ M, wr.heap.size = M := ⟨_, rfl⟩
          obtain ⟨W2, hW2⟩ : ∃ W, W = (wr.alloc (.cells (runL (0, 0, 0)).toArray 61)).setCells M 0 (runL (qn, qf, qt)) := ⟨_, rfl⟩
          have hz := Blk.new wr 61 (runL (0, 0, 0))
          rw [hM] at hz
          have KW : Hid (Kp Nb wr W2) := hid (by rw [hW2]; exact Kp.setCells (fun h => absurd h (by omega)) _ 0 _ ((Kp.refl Nb wr).alloc _))
          have HMW : Hid (wr.heap.size = M) := hid hM
          have TH := hid (run_there (q := (qn, qf, qt)) hz)
          have HZ : Hid (Blk W2 M 61 (runL (qn, qf, qt))) := hid (by rw [hW2]; exact row_set hz rfl)
          have HK2 := hid (HK.out.trans KW.out (fun _ _ h => h))
          unfold maxLen at hm
          obtain ⟨fs, hfs⟩ := under_run
          clear hz hcell hq
          go_upto_region 9 with (first
            | (refine wpList_load_mid (by rfl) 61 (.tmp 17) (by rfl) blk (off + k * 3) (by rfl) (runL (qn, qf, qt)) _ HR.out hfs rfl (run_infoL (qn, qf, qt)) ?_)
            | (refine wpList_store_mid (by rfl) 61 (.tmp 5) (.tmp 18) (by rfl) M 0 (runL (qn, qf, qt)).toArray (by rfl) (by rfl) TH.out (run_infoA (qn, qf, qt)) (run_one (qn, qf, qt)) ?_))
          rw [show (wr.alloc (.cells #[.int .i64 0, .int .i64 0, .int .i64 0] 61)).setCells M 0 (runL (qn, qf, qt)) = W2 from hW2.symm]
          clear hW2 TH hM
          have c0 : W2.cell? ⟨M, 0, none⟩ = some (.int .i64 qn) := HZ.out.cell 0
          have c1 : W2.cell? ⟨M, 1, none⟩ = some (.int .i64 qf) := HZ.out.cell 1
          have c2 : W2.cell? ⟨M, 2, none⟩ = some (.int .i64 qt) := HZ.out.cell 2
          have hkc : k < c.length := by rw [HLE.out]; exact hlt
          have hgq := HG.out _ (runAt_mem hkc)
          have hok := HOKS.out _ (runAt_mem hkc)
          have hst := preT_step c k hkc
          rw [HQ.out] at hgq hok hst
          have g := goodR_of.1 hgq
          dsimp only at g
          have hpl := preT_len c k HOKS.out
          have hln := itoa_len qn hok.1
          have hlf := itoa_len qf hok.2.1
          have hlt2 := itoa_len qt hok.2.2
          have HLT := hid hlt
          obtain ⟨P, hP⟩ : ∃ P, preT c k = P := ⟨_, rfl⟩
          rw [hP] at hst hpl ⊢
          obtain ⟨Q, hQ⟩ : ∃ Q, (if 0 < k then P ++ [32] else []) = Q := ⟨_, rfl⟩
          have HQ0 : Hid (¬ 0 < k → P = Q) := hid (fun h => by
            have : k = 0 := by omega
            subst this
            rw [← hQ, if_neg h, ← hP]
            rfl)
          have hql : Q.length ≤ P.length + 1 := by rw [← hQ]; split <;> simp
          obtain ⟨D, hD⟩ : ∃ D, textD qn qf = D := ⟨_, rfl⟩
          have hdl : D.length ≤ 60 := by rw [← hD]; unfold textD; simp only [List.length_append, List.length_singleton]; omega
          obtain ⟨E, hE⟩ : ∃ E, Lib.itoa qt = E := ⟨_, rfl⟩
          rw [hE] at hlt2
          have HN1 : Hid (qf < qt → preT c (k + 1) = Q ++ D ++ ([45] ++ E)) := hid (fun h => by rw [hst, hQ, ← hD, ← hE]; unfold textR textD; dsimp only; rw [if_pos h]; simp only [List.append_assoc])
          have HN2 : Hid (¬ qf < qt → preT c (k + 1) = Q ++ D) := hid (fun h => by rw [hst, hQ, ← hD]; unfold textR textD; dsimp only; rw [if_neg h]; simp only [List.append_assoc, List.append_nil])
          obtain ⟨sP, hsP⟩ : ∃ t, bs P = t := ⟨_, rfl⟩
          obtain ⟨sQ, hsQ⟩ : ∃ t, bs Q = t := ⟨_, rfl⟩
          obtain ⟨sD, hsD⟩ : ∃ t, bs D = t := ⟨_, rfl⟩
          obtain ⟨sE, hsE⟩ : ∃ t, bs E = t := ⟨_, rfl⟩
          obtain ⟨sQD, hsQD⟩ : ∃ t, bs (Q ++ D) = t := ⟨_, rfl⟩
          obtain ⟨s5, hs5⟩ : ∃ t, bs ([45] ++ E) = t := ⟨_, rfl⟩
          obtain ⟨s6, hs6⟩ : ∃ t, bs (Q ++ D ++ ([45] ++ E)) = t := ⟨_, rfl⟩
          have A0 : Hid (0 < k → ∀ w : World, (Op.stringOp .add sP ⟨#[32]⟩).run Tryz.prog w = .ok (.string sQ) w) := hid (fun h w => by rw [← hsP, ← hsQ, ← hQ, if_pos h]; exact add_bs w _ [32] (by omega) (by decide))
          have A1 : ∀ w : World, (Op.stringOp .add sQ sD).run Tryz.prog w = .ok (.string sQD) w := fun w => by rw [← hsQ, ← hsD, ← hsQD]; exact add_bs w _ _ (by omega) (by omega)
          have A2 : ∀ w : World, (Op.stringOp .add ⟨#[45]⟩ sE).run Tryz.prog w = .ok (.string s5) w := fun w => by rw [← hsE, ← hs5]; exact add_bs w [45] _ (by decide) (by omega)
          have A3 : ∀ w : World, (Op.stringOp .add sQD s5).run Tryz.prog w = .ok (.string s6) w := fun w => by rw [← hsQD, ← hs5, ← hs6]; exact add_bs w _ _ (by rw [List.length_append]; omega) (by simp only [List.length_append, List.length_singleton]; omega)
          have CD : Hid (∀ wx, Calls Tryz.prog 60 #[.agg #[.int .i64 qn, .int .i64 qf]] wx fun e w' => e = .returned (.string sD) ∧ Kp Nb wx w') := hid (fun wx => by rw [← hsD, ← hD]; exact rdot_any qn qf wx (by omega) (by omega) (by omega) (by omega))
          have CE : Hid (∀ wx, Calls Tryz.prog 61 #[.int .i64 qt] wx fun e w' => e = .returned (.string sE) ∧ Kp Nb wx w') := hid (fun wx => by rw [← hsE, ← hE]; exact rdigits_any qt wx (by omega) (by omega))
          have HR1 : Hid (qf < qt → bs (preT c (k + 1)) = s6) := hid (fun h => by rw [HN1.out h, hs6])
          have HR2 : Hid (¬ qf < qt → bs (preT c (k + 1)) = sQD) := hid (fun h => by rw [HN2.out h, hsQD])
          have HPQ : Hid (¬ 0 < k → sP = sQ) := hid (fun h => by rw [← hsP, ← hsQ, HQ0.out h])
          rw [hsP]
          clear hP hQ hD hE hsP hsQ hsD hsE hsQD hs5 hs6 hst hgq hok g hpl hln hlf hlt2 hql hdl HN1 HN2 HQ0 hkc HR KW HK
          by_cases hk0 : 0 < k
          · have hA0 := A0.out hk0
            have hk1 : (k : Int) > 0 := by omega
            go_wp2_with fail
            refine (CD.out W2).mono ?_
            rintro r w4 ⟨rfl, k4⟩
            clear hA0
            have HZ4 := hid (HZ.out.kept k4 (fun h => h))
            have HK4 := hid (HK2.out.trans k4 (fun _ _ h => h))
            have d1 : w4.cell? ⟨M, 1, none⟩ = some (.int .i64 qf) := HZ4.out.cell 1
            have d2 : w4.cell? ⟨M, 2, none⟩ = some (.int .i64 qt) := HZ4.out.cell 2
            clear k4 c0 c1 c2
            by_cases hft : qf < qt
            · have h6 := hid (HR1.out hft)
              have hft' : qt > qf := hft
              go_wp2_with fail
              refine (CE.out w4).mono ?_
              rintro r w5 ⟨rfl, k5⟩
              have HK5 := hid (HK4.out.trans k5 (fun _ _ h => h))
              clear k5 d1 d2
              go_wp2
              go_roundw
              case rel => exact ⟨k + 1, by rw [HLE.out]; have := HLT.out; omega, by go_num, by rw [h6.out], HK5⟩
              case measure => have := HLT.out; simp [intOf]; omega
            · have h6 := hid (HR2.out (by omega))
              have hft' : ¬ qt > qf := by omega
              go_wp2
              go_roundw
              case rel => exact ⟨k + 1, by rw [HLE.out]; have := HLT.out; omega, by go_num, by rw [h6.out], HK4⟩
              case measure => have := HLT.out; simp [intOf]; omega
          · have hA0 := HPQ.out hk0
            have hk1 : ¬ ((k : Int) > 0) := by omega
            subst hA0
            go_wp2_with fail
            refine (CD.out W2).mono ?_
            rintro r w4 ⟨rfl, k4⟩
            have HZ4 := hid (HZ.out.kept k4 (fun h => h))
            have HK4 := hid (HK2.out.trans k4 (fun _ _ h => h))
            have d1 : w4.cell? ⟨M, 1, none⟩ = some (.int .i64 qf) := HZ4.out.cell 1
            have d2 : w4.cell? ⟨M, 2, none⟩ = some (.int .i64 qt) := HZ4.out.cell 2
            clear k4 c0 c1 c2
            by_cases hft : qf < qt
            · have h6 := hid (HR1.out hft)
              have hft' : qt > qf := hft
              go_wp2_with fail
              refine (CE.out w4).mono ?_
              rintro r w5 ⟨rfl, k5⟩
              have HK5 := hid (HK4.out.trans k5 (fun _ _ h => h))
              clear k5 d1 d2
              go_wp2
              go_roundw
              case rel => exact ⟨k + 1, by rw [HLE.out]; have := HLT.out; omega, by go_num, by rw [h6.out], HK5⟩
              case measure => have := HLT.out; simp [intOf]; omega
            · have h6 := hid (HR2.out (by omega))
              have hft' : ¬ qt > qf := by omega
              go_wp2
              go_roundw
              case rel => exact ⟨k + 1, by rw [HLE.out]; have := HLT.out; omega, by go_num, by rw [h6.out], HK4⟩
              case measure => have := HLT.out; simp [intOf]; omega
        · obtain rfl : k = L := by omega
          have hz := HZF.out
          go_wp2
          go_ret
          exact ⟨by rw [hz]; rfl, HK.out⟩

end Go.Proofs.YtbbfibgijackhaaGreatDoor

namespace Go.Proofs.YtbbfibgijackhaaGreatDoor
open Go.RowKit

theorem st_bs (s : List UInt8) : st (s.map fun b => (b.toNat : Int)) = bs s := by
  unfold st bs
  rw [List.map_map]
  congr 2
  conv => rhs; rw [← List.map_id s]
  apply List.map_congr_left
  intro b _
  simp
theorem idx_bs (s : List UInt8) (w : World) (i : Nat) (hi : i < s.length) : (Instr.index 9 (.string (bs s)) (.int .i64 i)).run Tryz.prog w = .ok (.int .u8 ((s[i]?.getD 0).toNat : Int)) w := by
  have h := idx_any (s.map fun b => (b.toNat : Int)) w (fun j => by
    rw [List.getElem?_map]
    cases s[j]? with
    | none => decide
    | some b => have := b.toNat_lt; simp only [Option.map_some, Option.getD_some]; omega) i (by rw [List.length_map]; exact hi)
  rw [st_bs] at h
  rw [h, List.getElem?_map, List.getElem?_eq_getElem hi]
  rfl
theorem sl_bs (s : List UInt8) (w : World) (i : Nat) (hi : i < s.length) : (Instr.slice 9 (.string (bs s)) (some (.int .i64 (i : Int))) (some (.int .i64 ((i : Int) + 1))) none).run Tryz.prog w = .ok (.string (bs [s[i]?.getD 0])) w := by
  rw [run_slice_string (P := Tryz.prog) w 9 (bs s) .i64 .i64 i ((i : Int) + 1) Tryz.underlying9 (by omega) (by omega) (by rw [bs_size]; omega)]
  congr 2
  apply ByteArray.ext
  rw [ByteArray.data_extract]
  apply Array.ext'
  simp only [Array.toList_extract, List.extract_eq_take_drop, Int.toNat_natCast, show ((i : Int) + 1).toNat = i + 1 by omega, show i + 1 - i = 1 by omega]
  rw [List.drop_eq_getElem_cons hi, List.getElem?_eq_getElem hi]
  rfl

abbrev txL (l : List UInt8) : List Value := [.string (bs l)]
theorem flat_tx (xs : List (List UInt8)) : flatR txL xs = xs.map fun l => Value.string (bs l) := by
  unfold flatR
  induction xs with
  | nil => rfl
  | cons x xs ih => rw [List.flatMap_cons, ih]; rfl
theorem str_info : ∃ i z, Tryz.prog.info? 9 = some i ∧ i.zero = some z ∧ i.size = 1 ∧ i.bytes = 16 ∧ z.cells.size = 1 := by
  obtain ⟨i, z, h1, h2, h3, h4, h5⟩ := str_zc
  exact ⟨i, z, h1, h2, h3, h4, by rw [h5]; rfl⟩
theorem make_str1 (w : World) : (Instr.buildSlice 75 1 #[(0, .string ⟨#[]⟩)]).run Tryz.prog w = .ok (.slice (some ⟨w.heap.size, 0, none⟩) 1 1) (w.alloc (.cells #[.string ⟨#[]⟩] 9 (0, 0))) := by kernel_rfl
theorem rows_one_tx {W : World} {B : Nat} {x : List UInt8} (h : Blk W B 9 (txL x)) : RowsSl txL [] 1 W (.slice (some ⟨B, 0, none⟩) 1 1) [x] := by
  refine .inr ⟨B, 0, 1, rfl, Nat.le_refl _, by unfold maxLen; omega, fun i hi => ?_⟩
  have e : i = 0 := by simp at hi; omega
  subst e
  exact h.range 0 _ (fun j _ => by rw [Nat.zero_add]; rfl)
theorem store_str {w : World} {B i : Nat} {vs : List Value} {t : Nat} (h : Blk w B t vs) (x y : ByteArray) (hv : vs[i]? = some (.string y)) : (Instr.storeAt 9 (.pointer (some ⟨B, i, none⟩)) (.string x)).run Tryz.prog w = .ok () (w.setCell ⟨B, i, none⟩ (.string x)) := by
  have hc := (h.cell i).trans hv
  have hf := h.frozen i
  go_simp
/-- What Split leaves: an own row of the pieces. -/
def TxOwn (B : Nat) (w : World) (v : Value) (xs : List (List UInt8)) : Prop := w.ownsRow B 9 1 v xs.length (flatR txL xs)
def RspR (w : World) (c : UInt8) (s : List UInt8) (i u : Value) (wr : World) : Prop := ∃ k : Nat, k ≤ s.length ∧ i = .int .i64 k ∧ Hid (TxOwn w.heap.size wr u (splL c (s.take k))) ∧ Hid (Kp Nb w wr)
theorem take_at {s : List UInt8} {k : Nat} (hk : k < s.length) : s.take (k + 1) = s.take k ++ [s[k]?.getD 0] := by
  rw [List.take_succ_eq_append_getElem hk, List.getElem?_eq_getElem hk]
  rfl
set_option maxRecDepth 100000 in
set_option maxHeartbeats 8000000 in
theorem rsplit_any (s : List UInt8) (c : UInt8) (w : World) (hl : s.length ≤ 1000000) :
    Calls Tryz.prog 56 #[.string (bs s), .int .u8 (c.toNat : Int)] w fun e w' => ∃ v', e = .returned v' ∧ TxOwn w.heap.size w' v' (splL c s) ∧ Kp Nb w w' := by
  obtain ⟨L, hL⟩ : ∃ L, s.length = L := ⟨_, rfl⟩
  have HLE := hid hL
  have HLB : Hid (L ≤ 1000000) := hid (by omega)
  have HSZ := bs_size s
  rw [hL] at HSZ
  have HIX : Hid (∀ i, i < L → ∀ w : World, (Instr.index 9 (.string (bs s)) (.int .i64 i)).run Tryz.prog w = .ok (.int .u8 ((s[i]?.getD 0).toNat : Int)) w) := hid (fun i hi w => idx_bs s w i (by omega))
  have HSL : Hid (∀ i, i < L → ∀ w : World, (Instr.slice 9 (.string (bs s)) (some (.int .i64 (i : Int))) (some (.int .i64 ((i : Int) + 1))) none).run Tryz.prog w = .ok (.string (bs [s[i]?.getD 0])) w) := hid (fun i hi w => sl_bs s w i (by omega))
  obtain ⟨S, hS⟩ : ∃ S, bs s = S := ⟨_, rfl⟩
  rw [hS] at HSZ HIX HSL ⊢
  have HLB2 : L ≤ 1000000 := HLB.out
  obtain ⟨cv, hcv⟩ : ∃ z, (c.toNat : Int) = z := ⟨_, rfl⟩
  have HCV := hid hcv
  rw [hcv]
  obtain ⟨i0, zz, hi, hz0, hz1, hz2, hz3⟩ := str_info
  have MK := hid (fun w => make_str1 w)
  clear hS hcv hL hl
  go_enter Tryz.func56, Tryz.ntmps56
  obtain ⟨W, hW⟩ : ∃ W, W = w.alloc (.cells #[.string ⟨#[]⟩] 9 (0, 0)) := ⟨_, rfl⟩
  have HB : Hid (Blk W w.heap.size 9 [.string ⟨#[]⟩]) := hid (by rw [hW]; exact Blk.new w _ _)
  have HO : Hid (TxOwn w.heap.size W (.slice (some ⟨w.heap.size, 0, none⟩) 1 1) (splL c (s.take 0))) := hid (by
    unfold TxOwn
    exact own_put rfl (Nat.le_refl _) HB.out (Nat.le_refl _) (by unfold maxLen; omega) rfl rfl)
  have K0 : Hid (Kp Nb w W) := hid (by rw [hW]; exact (Kp.refl Nb w).alloc _)
  clear HB
  go_wp2_with (first
    | (refine wpList_val (by rfl) _ _ (exec_buildSliceD rfl (qs := #[(0, .string ⟨#[]⟩)]) (by simp [Act.eval]) (MK.out _)) ?_))
  go_loopw [6, 5] (RspR w c s) (fun i _ _ => L - (intOf i).toNat)
  case atStart => rw [← hW]; exact ⟨0, Nat.zero_le _, rfl, HO, K0⟩
  case round =>
    clear HO K0 hW
    obtain ⟨k, hk, rfl, HO, HK⟩ := hrel
    rw [HLE.out] at hk
    obtain ⟨a4, cap, rfl⟩ := own_shape HO.out
    by_cases hlt : k < L
    · have HLT := hid hlt
      have HKB : Hid ((k : Int) < 1000000) := hid (by have := HLB.out; omega)
      have ix := HIX.out k hlt
      have SLI := hid (HSL.out k hlt)
      have htk := take_at (s := s) (k := k) (by rw [HLE.out]; exact hlt)
      have hspl := splS_snoc c (s[k]?.getD 0) (s.take k)
      rw [← htk] at hspl
      have hln := (splS_len c (s.take k)).1
      rw [List.length_take] at hln
      obtain ⟨b, hb⟩ : ∃ b, s[k]?.getD 0 = b := ⟨_, rfl⟩
      rw [hb] at ix SLI hspl
      obtain ⟨⟨d, u⟩, hdu⟩ : ∃ p, splS c (s.take k) = p := ⟨_, rfl⟩
      have hcur : splL c (s.take k) = d ++ [u] := by unfold splL; rw [hdu]
      rw [hdu] at hspl hln
      dsimp only at hln
      rw [hcur] at HO ⊢
      obtain ⟨n, hn⟩ : ∃ n, d.length = n := ⟨_, rfl⟩
      have HN := hid hn
      have hlen : (d ++ [u]).length = n + 1 := by rw [List.length_append, hn]; rfl
      rw [hlen] at ⊢
      have HNB : Hid (n ≤ 1000000) := hid (by have := HLB.out; omega)
      by_cases hbc : b = c
      · have HNX : Hid (splL c (s.take (k + 1)) = (d ++ [u]) ++ [[]]) := hid (by unfold splL; rw [hspl]; unfold splF; rw [if_pos hbc])
        have hbv : (b.toNat : Int) = cv := by rw [hbc]; exact HCV.out
        have HO1 : Hid (wr.ownsRow w.heap.size 9 1 (.slice a4 (n + 1) cap) (n + 1) (flatR txL (d ++ [u]))) := hid (by have h := HO.out; unfold TxOwn at h; rw [hlen] at h; exact h)
        have B2 : Hid (n + 1 + [([] : List UInt8)].length ≤ maxLen ∧ (n + 1 + [([] : List UInt8)].length) * 16 ≤ 140737488355328 ∧ w.heap.size ≤ (wr.alloc (.cells #[.string ⟨#[]⟩] 9 (0, 0))).heap.size) := hid (by
          have h1 := HK.out.size
          have h2 := ((Kp.refl Nb wr).alloc (.cells #[.string ⟨#[]⟩] 9 (0, 0))).size
          have h3 := HNB.out
          refine ⟨?_, ?_, by omega⟩ <;> rw [List.length_singleton]
          · unfold maxLen; omega
          · omega)
        rw [hbv] at ix
        clear hspl hdu hcur hb hbc hbv htk hln hn HO SLI hlen
        go_wp2_with (first
          | (refine wpList_val (by rfl) _ _ (exec_buildSliceD rfl (qs := #[(0, .string ⟨#[]⟩)]) (by simp [Act.eval, Act.put]) (MK.out _)) ?_)
          | (at_builtin; refine wpList_append_rows (f := txL) (z := []) (c := 1) rfl _ _ 75 rfl w.heap.size 9 i0 zz 16 Tryz.underlying75 hi hz0 hz1 hz2 hz3 (by decide) _ _ _ rfl (ownsRow_kpD HO1.out ((Kp.refl Nb _).alloc _)) _ [[]] rfl (rows_one_tx (Blk.new _ _ _)) (fun x hx => rfl) (fun x _ u hu => by rw [List.mem_singleton.1 hu]; rfl) B2.out.1 B2.out.2.1 B2.out.2.2 ?_))
        intro v10 w10 hown hgrow
        have kx : Kp (fun i => w.heap.size ≤ i) wr w10 := ((Kp.refl (fun i => w.heap.size ≤ i) wr).alloc (.cells #[.string ⟨#[]⟩] 9 (0, 0))).grown hgrow (fun g hg h => (row_cells HO1.out hg).1)
        have HK10 : Hid (Kp Nb w w10) := hid (HK.out.trans kx (fun i hi h => by have : w.heap.size ≤ i := h; omega))
        have HO10 : Hid (TxOwn w.heap.size w10 v10 (splL c (s.take (k + 1)))) := hid (by
          unfold TxOwn
          rw [HNX.out, flatR_append, List.length_append, List.length_append, HN.out]
          exact hown)
        obtain ⟨a10, c10, rfl⟩ := own_shape hown
        clear hown hgrow kx
        go_wp2
        go_roundw
        case rel => exact ⟨k + 1, by rw [HLE.out]; have := HLT.out; omega, by go_num, HO10, HK10⟩
        case measure => have := HLT.out; simp [intOf]; omega
      · have HNX : Hid (splL c (s.take (k + 1)) = d ++ [u ++ [b]]) := hid (by unfold splL; rw [hspl]; unfold splF; rw [if_neg hbc])
        have hul : u.length ≤ 1000000 := by
          have h := (splS_len c (s.take k)).2
          rw [hdu, List.length_take] at h
          dsimp only at h
          have := HLB.out
          have := HLE.out
          omega
        have hbv : ¬ ((b.toNat : Int) = cv) := fun e => hbc (UInt8.toNat_inj.1 (by have := HCV.out; omega))
        obtain ⟨g, cap', vs, e0, hbg, hg, hnc, hcm, hvl, hvt⟩ := rowblk HO.out (by rw [hlen]; omega)
        rw [hlen] at e0 hnc hvt
        injection e0 with e0 en e1
        clear en
        subst e0 e1
        have HG2 := hid hg
        have hvn : vs[n]? = some (.string (bs u)) := by
          rw [← List.getElem?_take_of_lt (show n < (n + 1) * 1 by omega), hvt, flat_tx, List.map_append, List.getElem?_append_right (by rw [List.length_map, hn]; exact Nat.le_refl _), List.length_map, hn, Nat.sub_self]
          rfl
        obtain ⟨sU, hsU⟩ : ∃ t, bs u = t := ⟨_, rfl⟩
        obtain ⟨sB, hsB⟩ : ∃ t, bs [b] = t := ⟨_, rfl⟩
        obtain ⟨sUB, hsUB⟩ : ∃ t, bs (u ++ [b]) = t := ⟨_, rfl⟩
        have ADD : Hid (∀ w : World, (Op.stringOp .add sU sB).run Tryz.prog w = .ok (.string sUB) w) := hid (fun w => by rw [← hsU, ← hsB, ← hsUB]; exact add_bs w _ _ (by omega) (by simp))
        have HUB := hid hsUB
        rw [hsU] at hvn
        rw [hsB] at SLI
        have HGC := hid hvn
        have HROW := hid (show w.heap.size ≤ g ∧ n + 1 ≤ cap ∧ cap ≤ maxLen ∧ vs.length = cap * 1 ∧ vs.take ((n + 1) * 1) = flatR txL (d ++ [u]) from ⟨hbg, hnc, hcm, hvl, hvt⟩)
        have HKL : Hid ((n : Int) < 1000001 ∧ 0 ≤ (n : Int)) := hid (by have := HNB.out; omega)
        obtain ⟨bx, hbx⟩ : ∃ z, (b.toNat : Int) = z := ⟨_, rfl⟩
        rw [hbx] at ix hbv
        clear hbx hbc
        obtain ⟨w2, hw2⟩ : ∃ w2, w2 = wr := ⟨_, rfl⟩
        rw [← hw2] at HG2 HK ⊢
        clear hspl hdu hcur hb htk hln hn HO hlen hul hg hvn hsU hsB hsUB hbg hnc hcm hvl hvt hw2
        have hbe : (bx == cv) = false := by rw [beq_eq_false_iff_ne]; exact hbv
        clear hi hz0 hz1 hz2 hz3
        go_upto_region 7 with fail
        clear hbe hbv ix
        refine region_vals_last (n := 13) [none, none, none, none, none, none, none, none, none, none, none, none, none, none, none, none, none, none, none, none, none, none, some 0, some 1, some 2, some 3, some 4, some 5, some 6, some 7, some 8, some 9, some 10, some 11, some 12, none] [[(5, none)], [(5, none)], [(23, some 1)], [(24, some 2)], [(22, some 0), (25, some 3)], [(26, some 4)], [(0, none)], [(6, none)], [(6, none)], [(30, some 8)], [(28, some 6), (29, some 7), (31, some 9)], [(27, some 5), (32, some 10)], [(22, some 0), (25, some 3)], [(34, some 12), (33, some 11)]] [some 22, some 23, some 24, some 25, some 26, some 27, some 28, some 29, some 30, some 31, some 32, some 33, some 34] [.slice (some ⟨g, 0, none⟩) (n + 1) cap, .slice (some ⟨g, 0, none⟩) (n + 1) cap, .int .i64 ((n : Int) + 1), .int .i64 (n : Int), .pointer (some ⟨g, n, none⟩), .string sU, .string S, .int .i64 (k : Int), .int .i64 (k : Int), .int .i64 ((k : Int) + 1), .string sB, .string sUB, .pointer (some ⟨g, n, none⟩)] (fun w' => Hid (Kp Nb w2 w')) (by kernel_rfl) (by kernel_rfl) (by kernel_rfl) (by kernel_rfl) ({ dst := none, op := Op.store 9 (Operand.tmp 34) (Operand.tmp 33), type := 0, pos := "ref.go:216", after := #[{ on := 12, ground := Ground.data }, { on := 11, ground := Ground.data }, { on := 0, ground := Ground.phase }, { on := 1, ground := Ground.phase }, { on := 2, ground := Ground.phase }, { on := 3, ground := Ground.phase }, { on := 4, ground := Ground.phase }, { on := 5, ground := Ground.phase }, { on := 6, ground := Ground.phase }, { on := 7, ground := Ground.phase }, { on := 8, ground := Ground.phase }, { on := 9, ground := Ground.phase }, { on := 10, ground := Ground.phase }, { on := 11, ground := Ground.phase }], guard := none }) rfl rfl (by kernel_rfl) (by kernel_rfl) ?hS (?hstep : VFrom _ _ _ _ _ _ 0 13).start ?hend
        case hstep =>
          refine VFrom.cons (VStep.val _ rfl _ rfl (.slice (some ⟨g, 0, none⟩) (n + 1) cap) rfl trivial (fun ev wq hS he hr => ?_)) ?_
          · have r0 : ev (.tmp 5) = .slice (some ⟨g, 0, none⟩) (n + 1) cap := hr (5, none) (by simp); have hk := he.1; clear hr he
            go_simp
          refine VFrom.cons (VStep.val _ rfl _ rfl (.slice (some ⟨g, 0, none⟩) (n + 1) cap) rfl trivial (fun ev wq hS he hr => ?_)) ?_
          · have r0 : ev (.tmp 5) = .slice (some ⟨g, 0, none⟩) (n + 1) cap := hr (5, none) (by simp); have hk := he.1; clear hr he
            go_simp
          refine VFrom.cons (VStep.val _ rfl _ rfl (.int .i64 ((n : Int) + 1)) rfl trivial (fun ev wq hS he hr => ?_)) ?_
          · have r0 : ev (.tmp 23) = .slice (some ⟨g, 0, none⟩) (n + 1) cap := hr (23, some 1) (by simp); have hk := he.1; clear hr he
            go_simp
          refine VFrom.cons (VStep.val _ rfl _ rfl (.int .i64 (n : Int)) rfl trivial (fun ev wq hS he hr => ?_)) ?_
          · have r0 : ev (.tmp 24) = .int .i64 ((n : Int) + 1) := hr (24, some 2) (by simp); have hk := he.1; clear hr he
            have e1 := HKL.out; have e2 : IntKind.i64.wrap (n : Int) = n := IntWalk.i64_in _ (by omega)
            go_simp
          refine VFrom.cons (VStep.val _ rfl _ rfl (.pointer (some ⟨g, n, none⟩)) rfl trivial (fun ev wq hS he hr => ?_)) ?_
          · have r0 : ev (.tmp 22) = .slice (some ⟨g, 0, none⟩) (n + 1) cap := hr (22, some 0) (by simp); have r1 : ev (.tmp 25) = .int .i64 (n : Int) := hr (25, some 3) (by simp); have hk := he.1; clear hr he
            have e1 := HKL.out; have e2 : ¬ ((n : Int) + 1 ≤ (n : Int)) := by omega
            go_simp
          refine VFrom.cons (VStep.val _ rfl _ rfl (.string sU) rfl trivial (fun ev wq hS he hr => ?_)) ?_
          · have r0 : ev (.tmp 26) = .pointer (some ⟨g, n, none⟩) := hr (26, some 4) (by simp); have hk := he.1; clear hr he
            have c0 := ((HG2.out.kept hS.out (fun h => h)).cell n).trans HGC.out
            go_simp
          refine VFrom.cons (VStep.val _ rfl _ rfl (.string S) rfl trivial (fun ev wq hS he hr => ?_)) ?_
          · have r0 : ev (.tmp 0) = .string S := hr (0, none) (by simp); have hk := he.1; clear hr he
            go_simp
          refine VFrom.cons (VStep.val _ rfl _ rfl (.int .i64 (k : Int)) rfl trivial (fun ev wq hS he hr => ?_)) ?_
          · have r0 : ev (.tmp 6) = .int .i64 (k : Int) := hr (6, none) (by simp); have hk := he.1; clear hr he
            go_simp
          refine VFrom.cons (VStep.val _ rfl _ rfl (.int .i64 (k : Int)) rfl trivial (fun ev wq hS he hr => ?_)) ?_
          · have r0 : ev (.tmp 6) = .int .i64 (k : Int) := hr (6, none) (by simp); have hk := he.1; clear hr he
            go_simp
          refine VFrom.cons (VStep.val _ rfl _ rfl (.int .i64 ((k : Int) + 1)) rfl trivial (fun ev wq hS he hr => ?_)) ?_
          · have r0 : ev (.tmp 30) = .int .i64 (k : Int) := hr (30, some 8) (by simp); have hk := he.1; clear hr he
            have e1 := HKB.out; have e2 : IntKind.i64.wrap ((k : Int) + 1) = (k : Int) + 1 := IntWalk.i64_in _ (by omega)
            go_simp
          refine VFrom.cons (VStep.val _ rfl _ rfl (.string sB) rfl trivial (fun ev wq hS he hr => ?_)) ?_
          · have r0 : ev (.tmp 28) = .string S := hr (28, some 6) (by simp); have r1 : ev (.tmp 29) = .int .i64 (k : Int) := hr (29, some 7) (by simp); have r2 : ev (.tmp 31) = .int .i64 ((k : Int) + 1) := hr (31, some 9) (by simp); have hk := he.1; clear hr he
            have e1 := SLI.out wq
            go_simp
          refine VFrom.cons (VStep.val _ rfl _ rfl (.string sUB) rfl trivial (fun ev wq hS he hr => ?_)) ?_
          · have r0 : ev (.tmp 27) = .string sU := hr (27, some 5) (by simp); have r1 : ev (.tmp 32) = .string sB := hr (32, some 10) (by simp); have hk := he.1; clear hr he
            have e1 := ADD.out wq
            go_simp
          refine VFrom.cons (VStep.val _ rfl _ rfl (.pointer (some ⟨g, n, none⟩)) rfl trivial (fun ev wq hS he hr => ?_)) ?_
          · have r0 : ev (.tmp 22) = .slice (some ⟨g, 0, none⟩) (n + 1) cap := hr (22, some 0) (by simp); have r1 : ev (.tmp 25) = .int .i64 (n : Int) := hr (25, some 3) (by simp); have hk := he.1; clear hr he
            have e1 := HKL.out; have e2 : ¬ ((n : Int) + 1 ≤ (n : Int)) := by omega
            go_simp
          exact VFrom.nil
        case hS => exact hid (Kp.refl Nb w2).drew
        case hend =>
          intro af wy haf kh
          have HG3 := HG2.out.kept kh.out (fun h => h)
          have HG4 := hid (HG3.set n (.string sUB))
          have HKY : Hid (Kp Nb w (wy.setCell ⟨g, n, none⟩ (.string sUB))) := hid ((HK.out.trans kh.out (fun _ _ h => h)).setCell (p := ⟨g, n, none⟩) (fun h => by have := HROW.out.1; dsimp only at h; omega) _)
          have HOW : Hid (TxOwn w.heap.size (wy.setCell ⟨g, n, none⟩ (.string sUB)) (.slice (some ⟨g, 0, none⟩) (n + 1) cap) (splL c (s.take (k + 1)))) := hid (by
            unfold TxOwn
            have hlen : (d ++ [u ++ [b]]).length = n + 1 := by rw [List.length_append, HN.out]; rfl
            rw [HNX.out, hlen]
            obtain ⟨r1, r2, r3, r4, r5⟩ := HROW.out
            refine own_put (by rw [flat_tx, List.length_map, hlen]; omega) r1 HG4.out r2 r3 (by rw [List.length_set]; exact r4) ?_
            rw [List.take_set, r5, flat_tx, flat_tx, List.map_append, List.map_append, List.set_append_right _ _ (by rw [List.length_map, HN.out]; exact Nat.le_refl _), List.length_map, HN.out, Nat.sub_self, ← HUB.out]
            rfl)
          refine wp_store_at 9 (.tmp 34) (.tmp 33) rfl (p := ⟨g, n, none⟩) (v := .string sUB) (by rw [haf.out]; kernel_rfl) (by rw [haf.out]; kernel_rfl) (store_str HG3 sUB sU HGC.out) ?_
          rw [haf.out]
          clear haf kh HG3
          simp only [putAll, List.zip_cons_cons, List.zip_nil_right, List.foldl_cons, List.foldl_nil, Act.put, List.setIfInBounds_toArray, List.set_cons_zero, List.set_cons_succ]
          go_wp2
          go_roundw
          case rel => exact ⟨k + 1, by rw [HLE.out]; have := HLT.out; omega, by go_num, HOW, HKY⟩
          case measure => have := HLT.out; simp [intOf]; omega
    · obtain rfl : k = L := by omega
      have HF : Hid (TxOwn w.heap.size wr (.slice a4 (splL c (s.take k)).length cap) (splL c s)) := hid (by
        have h := HO.out
        rw [List.take_of_length_le (Nat.le_of_eq HLE.out)] at h ⊢
        exact h)
      go_wp2
      go_ret
      exact ⟨_, rfl, HF.out, HK.out⟩

def RnuR (w : World) (s : List UInt8) (i u : Value) (wr : World) : Prop := ∃ (k : Nat) (n : Nat), k ≤ s.length ∧ i = .int .i64 k ∧ u = .int .i64 (n : Int) ∧ Hid (Lib.decFrom 0 (s.take k) = some n) ∧ wr = w
theorem decFrom_bad (s : List UInt8) (k : Nat) (hk : k < s.length) (h : Lib.digitVal (s[k]?.getD 0) = none) : Lib.decFrom 0 s = none := by
  have e : s = s.take k ++ (s[k]?.getD 0 :: s.drop (k + 1)) := by
    rw [List.getElem?_eq_getElem hk, Option.getD_some, ← List.drop_eq_getElem_cons hk, List.take_append_drop]
  rw [e, decFrom_app]
  cases Lib.decFrom 0 (s.take k) with
  | none => rfl
  | some n =>
    simp only [Option.bind_some, Lib.decFrom]
    rw [h]
def numV (s : List UInt8) : Value := match numT s with
  | some n => .tuple #[.int .i64 (n : Int), .bool true]
  | none => .tuple #[.int .i64 0, .bool false]
set_option maxRecDepth 100000 in
set_option maxHeartbeats 4000000 in
theorem rnumber_any (s : List UInt8) (w : World) (hl : s.length ≤ 1000000) :
    Calls Tryz.prog 57 #[.string (bs s)] w fun e w' => e = .returned (numV s) ∧ w' = w := by
  obtain ⟨L, hL⟩ : ∃ L, s.length = L := ⟨_, rfl⟩
  have HLE := hid hL
  have HSZ := bs_size s
  rw [hL] at HSZ
  have HIX : Hid (∀ i, i < L → ∀ w : World, (Instr.index 9 (.string (bs s)) (.int .i64 i)).run Tryz.prog w = .ok (.int .u8 ((s[i]?.getD 0).toNat : Int)) w) := hid (fun i hi w => idx_bs s w i (by omega))
  obtain ⟨S, hS⟩ : ∃ S, bs s = S := ⟨_, rfl⟩
  rw [hS] at HSZ HIX ⊢
  have hLb : L ≤ 1000000 := by omega
  by_cases h1 : L < 1
  · have HV : Hid (numV s = .tuple #[.int .i64 0, .bool false]) := hid (by unfold numV numT; rw [if_pos (.inl (by omega))])
    rw [HV.out]
    have g1 : (L : Int) < 1 := by omega
    clear hS hL hl h1
    go_enter Tryz.func57, Tryz.ntmps57
    go_wp2
    go_ret2
    exact ⟨rfl, rfl⟩
  · have g1 : ¬ (L : Int) < 1 := by omega
    by_cases h2 : 18 < L
    · have HV : Hid (numV s = .tuple #[.int .i64 0, .bool false]) := hid (by unfold numV numT; rw [if_pos (.inr (.inl (by omega)))])
      rw [HV.out]
      have g2 : (L : Int) > 18 := by omega
      clear hS hL hl h1
      go_enter Tryz.func57, Tryz.ntmps57
      go_wp2
      go_ret2
      exact ⟨rfl, rfl⟩
    · have g2 : ¬ (L : Int) > 18 := by omega
      by_cases h3 : 1 < L ∧ s[0]?.getD 0 = 48
      · have HV : Hid (numV s = .tuple #[.int .i64 0, .bool false]) := hid (by unfold numV numT; rw [if_pos (.inr (.inr (by rw [hL]; exact h3)))])
        rw [HV.out]
        have g3 : (L : Int) > 1 := by omega
        have ix : ∀ w : World, (Instr.index 9 (.string S) (.int .i64 0)).run Tryz.prog w = .ok (.int .u8 ((s[0]?.getD 0).toNat : Int)) w := HIX.out 0 (by omega)
        rw [h3.2, show ((48 : UInt8).toNat : Int) = 48 from rfl] at ix
        clear hS hL hl h1
        go_enter Tryz.func57, Tryz.ntmps57
        go_wp2
        go_ret2
        exact ⟨rfl, rfl⟩
      · have HN : Hid (numT s = Lib.decFrom 0 s) := hid (by
          unfold numT
          rw [if_neg]
          rintro (h | h | h)
          · omega
          · omega
          · rw [hL] at h; exact h3 h)
        have ix0 : ∀ w : World, (Instr.index 9 (.string S) (.int .i64 0)).run Tryz.prog w = .ok (.int .u8 ((s[0]?.getD 0).toNat : Int)) w := HIX.out 0 (by omega)
        have hx0 : 1 < L → ((s[0]?.getD 0).toNat : Int) ≠ 48 := fun h e => h3 ⟨h, UInt8.toNat_inj.1 (by have e48 : (48 : UInt8).toNat = 48 := rfl; omega)⟩
        obtain ⟨x0, hx⟩ : ∃ x, ((s[0]?.getD 0).toNat : Int) = x := ⟨_, rfl⟩
        rw [hx] at ix0 hx0
        have HGO : Hid (∀ k n, k < L → Lib.decFrom 0 (s.take k) = some n → Lib.digitVal (s[k]?.getD 0) = none → numV s = .tuple #[.int .i64 0, .bool false]) := hid (fun k n hk _ h => by unfold numV; rw [HN.out, decFrom_bad s k (by rw [HLE.out]; exact hk) h])
        have HFI : Hid (∀ n, Lib.decFrom 0 s = some n → numV s = .tuple #[.int .i64 (n : Int), .bool true]) := hid (fun n h => by unfold numV; rw [HN.out, h])
        have HL18 : Hid (L ≤ 18) := hid (by omega)
        have ST : ∀ (P : Value → Prop), P (numV s) = P (numV s) := fun _ => rfl
        obtain ⟨V, hV⟩ : ∃ V, numV s = V := ⟨_, rfl⟩
        rw [hV] at HGO HFI ⊢
        clear hS hL hl h3 hx hV ST HN
        go_enter Tryz.func57, Tryz.ntmps57
        by_cases h4 : 1 < L
        · have g3 : (L : Int) > 1 := by omega
          have g4 := hx0 h4
          clear hx0 h1 h2 h4
          go_wp2
          go_loopw [5, 4] (RnuR w s) (fun i _ _ => L - (intOf i).toNat)
          case atStart => exact ⟨0, 0, Nat.zero_le _, rfl, rfl, hid rfl, rfl⟩
          case round =>
            obtain ⟨k, n, hk, rfl, rfl, HD, rfl⟩ := hrel
            rw [HLE.out] at hk
            by_cases hlt : k < L
            · have HLT := hid hlt
              have ix := HIX.out k hlt
              have hgo := HGO.out k n hlt HD.out
              have htk := take_at (s := s) (k := k) (by rw [HLE.out]; exact hlt)
              have hdt := Lib.decFrom_take_lt HD.out (by have := HL18.out; omega)
              have hsn := decFrom_snoc (s.take k) (s[k]?.getD 0)
              rw [← htk, HD.out] at hsn
              have hkb : (k : Int) < 18 := by have := HL18.out; omega
              obtain ⟨b, hb⟩ : ∃ b, s[k]?.getD 0 = b := ⟨_, rfl⟩
              rw [hb] at ix hgo hsn
              have hb2 := b.toNat_lt
              obtain ⟨x, hx⟩ : ∃ x : Nat, b.toNat = x := ⟨_, rfl⟩
              unfold Lib.digitVal at hgo hsn
              rw [hx] at ix hgo hsn hb2
              by_cases hd : 48 ≤ x ∧ x ≤ 57
              · rw [if_pos hd] at hsn
                have HSN : Hid (Lib.decFrom 0 (s.take (k + 1)) = some (n * 10 + (x - 48))) := hid hsn
                have q1 : ¬ (x : Int) < 48 := by omega
                have q2 : ¬ (x : Int) > 57 := by omega
                have q3 : (n : Int) < 100000000000000000 := by omega
                have q4 : 0 ≤ (x : Int) - 48 := by omega
                have q5 : (x : Int) - 48 < 10 := by omega
                have HR : Hid ((n : Int) * 10 + ((x : Int) - 48) = ((n * 10 + (x - 48) : Nat) : Int)) := hid (by omega)
                clear hgo htk hdt hsn hb hx hd HD hb2
                go_wp2
                go_roundw
                case rel => exact ⟨k + 1, n * 10 + (x - 48), by rw [HLE.out]; have := HLT.out; omega, by go_num, by rw [← HR.out], HSN, rfl⟩
                case measure => have := HLT.out; simp [intOf]; omega
              · rw [if_neg hd] at hgo
                have HV := hid (hgo rfl)
                by_cases hd1 : x < 48
                · have q1 : (x : Int) < 48 := by omega
                  clear hgo htk hdt hsn hb hx hd HD
                  go_wp2
                  go_ret2
                  exact ⟨by rw [HV.out]; rfl, rfl⟩
                · have q1 : ¬ (x : Int) < 48 := by omega
                  have q2 : (x : Int) > 57 := by omega
                  clear hgo htk hdt hsn hb hx hd HD
                  go_wp2
                  go_ret2
                  exact ⟨by rw [HV.out]; rfl, rfl⟩
            · obtain rfl : k = L := by omega
              have HE := hid (HFI.out n (by have h := HD.out; rw [List.take_of_length_le (Nat.le_of_eq HLE.out)] at h; exact h))
              go_wp2
              go_ret2
              exact ⟨by rw [HE.out]; rfl, rfl⟩
        · have g3 : ¬ (L : Int) > 1 := by omega
          clear hx0 h1 h2 h4 ix0
          go_wp2
          go_loopw [5, 4] (RnuR w s) (fun i _ _ => L - (intOf i).toNat)
          case atStart => exact ⟨0, 0, Nat.zero_le _, rfl, rfl, hid rfl, rfl⟩
          case round =>
            obtain ⟨k, n, hk, rfl, rfl, HD, rfl⟩ := hrel
            rw [HLE.out] at hk
            by_cases hlt : k < L
            · have HLT := hid hlt
              have ix := HIX.out k hlt
              have hgo := HGO.out k n hlt HD.out
              have htk := take_at (s := s) (k := k) (by rw [HLE.out]; exact hlt)
              have hdt := Lib.decFrom_take_lt HD.out (by have := HL18.out; omega)
              have hsn := decFrom_snoc (s.take k) (s[k]?.getD 0)
              rw [← htk, HD.out] at hsn
              have hkb : (k : Int) < 18 := by have := HL18.out; omega
              obtain ⟨b, hb⟩ : ∃ b, s[k]?.getD 0 = b := ⟨_, rfl⟩
              rw [hb] at ix hgo hsn
              have hb2 := b.toNat_lt
              obtain ⟨x, hx⟩ : ∃ x : Nat, b.toNat = x := ⟨_, rfl⟩
              unfold Lib.digitVal at hgo hsn
              rw [hx] at ix hgo hsn hb2
              by_cases hd : 48 ≤ x ∧ x ≤ 57
              · rw [if_pos hd] at hsn
                have HSN : Hid (Lib.decFrom 0 (s.take (k + 1)) = some (n * 10 + (x - 48))) := hid hsn
                have q1 : ¬ (x : Int) < 48 := by omega
                have q2 : ¬ (x : Int) > 57 := by omega
                have q3 : (n : Int) < 100000000000000000 := by omega
                have q4 : 0 ≤ (x : Int) - 48 := by omega
                have q5 : (x : Int) - 48 < 10 := by omega
                have HR : Hid ((n : Int) * 10 + ((x : Int) - 48) = ((n * 10 + (x - 48) : Nat) : Int)) := hid (by omega)
                clear hgo htk hdt hsn hb hx hd HD hb2
                go_wp2
                go_roundw
                case rel => exact ⟨k + 1, n * 10 + (x - 48), by rw [HLE.out]; have := HLT.out; omega, by go_num, by rw [← HR.out], HSN, rfl⟩
                case measure => have := HLT.out; simp [intOf]; omega
              · rw [if_neg hd] at hgo
                have HV := hid (hgo rfl)
                by_cases hd1 : x < 48
                · have q1 : (x : Int) < 48 := by omega
                  clear hgo htk hdt hsn hb hx hd HD
                  go_wp2
                  go_ret2
                  exact ⟨by rw [HV.out]; rfl, rfl⟩
                · have q1 : ¬ (x : Int) < 48 := by omega
                  have q2 : (x : Int) > 57 := by omega
                  clear hgo htk hdt hsn hb hx hd HD
                  go_wp2
                  go_ret2
                  exact ⟨by rw [HV.out]; rfl, rfl⟩
            · obtain rfl : k = L := by omega
              have HE := hid (HFI.out n (by have h := HD.out; rw [List.take_of_length_le (Nat.le_of_eq HLE.out)] at h; exact h))
              go_wp2
              go_ret2
              exact ⟨by rw [HE.out]; rfl, rfl⟩

end Go.Proofs.YtbbfibgijackhaaGreatDoor
