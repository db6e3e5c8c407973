/-
  Layer 3: Same, With. Conditions: at most 2^20 runs a list.
  Layer 3: clocks as sets of dots, plainly. What a right clock has says which it is; Join is the union; less the difference.
  Layer 3: less as the difference; Compare; Count, plainly.
  Layer 3: With, Compare; the law's own above. Conditions: at most 2^20 runs a list.
-/
import Derived.Test.YtbbfibgijackhaaGreatDoorDtH
import Derived.Test.YtbbfibgijackhaaGreatDoorShelf
import Derived.Test.YtbbfibgijackhaaGreatDoorDtHa
namespace Go.Proofs.YtbbfibgijackhaaGreatDoor
open Go.RowKit Go.Shelf Go.Sort Go.Lib
attribute [local go_sem] Oper.semAt_some

theorem eq_run (p q : RunQ) (w : World) : Sem.run Tryz.prog (Op.equalIn 10000 61 (runV p) (runV q)) w = .ok (decide (p = q)) w := by
  obtain ⟨a, b, c⟩ := p
  obtain ⟨a', b', c'⟩ := q
  have hd : decide (((a, b, c) : RunQ) = (a', b', c')) = (decide (a = a') && (decide (b = b') && decide (c = c'))) := by simp only [Prod.mk.injEq, Bool.decide_and]
  rw [hd]
  clear hd
  dsimp only [runV]
  by_cases h1 : a = a'
  · subst h1
    by_cases h2 : b = b'
    · subst h2
      by_cases h3 : c = c'
      · subst h3; go_simp
      · have g : (c == c') = false := beq_eq_false_iff_ne.2 h3
        rw [decide_eq_false h3]
        clear h3
        go_simp
    · have g : (b == b') = false := beq_eq_false_iff_ne.2 h2
      rw [decide_eq_false h2]
      clear h2
      go_simp
  · have g : (a == a') = false := beq_eq_false_iff_ne.2 h1
    rw [decide_eq_false h1]
    clear h1
    go_simp
theorem neqR : NeqAt Tryz.prog 61 (fun q : RunQ => .agg (runL q).toArray) (fun x y => decide (x = y)) := by
  constructor
  · intro x y w
    have h : Sem.run Tryz.prog (Op.equal 61 (.agg (runL x).toArray) (.agg (runL y).toArray)) w = .ok (decide (x = y)) w := eq_run x y w
    dsimp only
    show Sem.run Tryz.prog (do pure (Value.bool (!(← Op.equal 61 (.agg (runL x).toArray) (.agg (runL y).toArray))))) w = _
    simp only [Sem.run_bind, Sem.run_pure, Result.andThen_ok, h]
  · intro op a b x y w
    obtain ⟨xs, hxs⟩ : ∃ xs : Array Value, (runL x).toArray = xs := ⟨_, rfl⟩
    obtain ⟨ys, hys⟩ : ∃ ys : Array Value, (runL y).toArray = ys := ⟨_, rfl⟩
    dsimp only
    rw [hxs, hys]
    go_simp
theorem holds_runs {w : World} {g off : Nat} {c : List RunQ} (h : ∀ i, i < c.length → w.rangeAt g (off + i * 3) (runL (runAt c i))) : ∀ j, j < c.length → ∀ i v, (runL c[j]!)[i]? = some v → w.cell? ⟨g, off + j * 3 + i, none⟩ = some v := fun j hj i v hv => by
  refine h j hj i v ?_
  rw [← hv]
  have e : c[j]! = runAt c j := by unfold runAt; rw [getElem!_pos c j hj, List.getElem?_eq_getElem hj]; rfl
  rw [e]
set_option maxHeartbeats 1000000 in
theorem requal_any (va vb : Value) (xs ys : List RunQ) (w : World) (ha : ClSl w va xs) (hb : ClSl w vb ys) (hx : xs.length ≤ 100000) (hy : ys.length ≤ 100000) :
    Calls Tryz.prog 41 #[va, vb] w fun e w' => e = .returned (.bool (decide (xs = ys))) ∧ Kp Nb w w' := by
  by_cases hl : xs.length = ys.length
  · by_cases h0 : xs.length = 0
    · have e1 : xs = [] := List.length_eq_zero_iff.1 h0
      have e2 : ys = [] := List.length_eq_zero_iff.1 (by omega)
      subst e1 e2
      obtain ⟨pa, da, rfl⟩ := ha.shape
      obtain ⟨pb, db, rfl⟩ := hb.shape
      clear ha hb hx hy hl h0
      simp only [List.length_nil]
      go_enter Tryz.func41, Tryz.ntmps41
      go_wp2
      go_loopw [13] (fun i wr => i = .int .i64 0 ∧ wr = w) (fun _ _ => 0)
      case atStart => exact ⟨rfl, rfl⟩
      case round =>
        obtain ⟨rfl, rfl⟩ := hrel
        go_wp2
        go_ret
        exact ⟨by simp, Kp.refl _ _⟩
    · obtain ⟨g, o1, c1, rfl, hc1, _, hcell1⟩ := cl_shape ha (by intro e; rw [e] at h0; exact h0 rfl)
      obtain ⟨g2, o2, c2, rfl, hc2, _, hcell2⟩ := cl_shape hb (by intro e; rw [e] at hl; exact h0 hl)
      have h := AnyQ.slices_Equal (P := Tryz.prog) Tryz.equalRun 3 (fun w => Tryz.isAgg61 w) (fun w => Tryz.sizeOf61 w) runL (fun _ => rfl) (fun x y => decide (x = y)) neqR g o1 xs.length c1 g2 o2 ys.length c2 xs ys w
        (Nat.le_refl _) (Nat.le_refl _) (by omega) (by omega) (holds_runs hcell1) (holds_runs hcell2)
      refine Calls.mono h ?_
      rintro e w' ⟨rfl, q, rfl⟩
      refine ⟨?_, ⟨rfl, rfl, rfl, Nat.le_refl _, fun _ _ _ => rfl⟩⟩
      congr 2
      rw [List.take_length, List.take_length]
      have e : ∀ (a b : List RunQ), Lib.allEq (fun x y => decide (x = y)) a b = decide (a = b) := fun a => by
        induction a with
        | nil => intro b; cases b <;> simp [Lib.allEq]
        | cons x a ih => intro b; cases b with
          | nil => simp [Lib.allEq]
          | cons y b => simp [Lib.allEq, ih]
      rw [e]
  · have hne : decide (xs = ys) = false := decide_eq_false (fun e => hl (by rw [e]))
    rw [hne]
    obtain ⟨pa, da, rfl⟩ := ha.shape
    obtain ⟨pb, db, rfl⟩ := hb.shape
    obtain ⟨nA, hnA⟩ : ∃ n, xs.length = n := ⟨_, rfl⟩
    obtain ⟨nB, hnB⟩ : ∃ n, ys.length = n := ⟨_, rfl⟩
    rw [hnA, hnB] at hl ⊢
    have hl' : ¬ (nA : Int) = (nB : Int) := by omega
    clear ha hb hx hy hne hnA hnB hl
    go_enter Tryz.func41, Tryz.ntmps41
    go_wp2
    go_ret
    exact ⟨rfl, Kp.refl _ _⟩
set_option maxHeartbeats 1000000 in
theorem same_any (va vb : Value) (xs ys : List RunQ) (w : World) (ha : ClSl w va xs) (hb : ClSl w vb ys) (hx : xs.length ≤ 100000) (hy : ys.length ≤ 100000) :
    Calls Tryz.prog 15 #[va, vb] w fun e w' => e = .returned (.bool (decide (xs = ys))) ∧ Kp Nb w w' := by
  have CC := hid (requal_any va vb xs ys w ha hb hx hy)
  obtain ⟨b, hb'⟩ : ∃ b, decide (xs = ys) = b := ⟨_, rfl⟩
  rw [hb'] at CC ⊢
  have HS := ha.shape
  have HS2 := hb.shape
  clear ha hb hx hy hb'
  obtain ⟨pa, da, rfl⟩ := HS
  obtain ⟨pb, db, rfl⟩ := HS2
  go_enter Tryz.func15, Tryz.ntmps15
  go_wp2_with (go_at_call 41; refine CC.out.mono ?_; rintro r w1 ⟨rfl, k1⟩; have K1 := hid k1; clear k1)
  go_ret
  exact ⟨rfl, K1.out⟩

end Go.Proofs.YtbbfibgijackhaaGreatDoor

namespace Go.Proofs.YtbbfibgijackhaaGreatDoor
open Go.RowKit

def In1 (r : RunQ) (n d : Int) : Prop := r.1 = n ∧ r.2.1 ≤ d ∧ d ≤ r.2.2
/-- Has a list of runs a dot? -/
def InC (c : List RunQ) (n d : Int) : Prop := ∃ r ∈ c, In1 r n d
theorem inC_nil (n d : Int) : ¬ InC [] n d := fun ⟨_, h, _⟩ => by simp at h
theorem inC_cons (x : RunQ) (c : List RunQ) (n d : Int) : InC (x :: c) n d ↔ In1 x n d ∨ InC c n d := by
  unfold InC; simp
theorem inC_append (a b : List RunQ) (n d : Int) : InC (a ++ b) n d ↔ InC a n d ∨ InC b n d := by
  unfold InC
  constructor
  · rintro ⟨r, h, hr⟩
    rcases List.mem_append.1 h with h | h
    · exact .inl ⟨r, h, hr⟩
    · exact .inr ⟨r, h, hr⟩
  · rintro (⟨r, h, hr⟩ | ⟨r, h, hr⟩)
    · exact ⟨r, List.mem_append.2 (.inl h), hr⟩
    · exact ⟨r, List.mem_append.2 (.inr h), hr⟩
theorem inC_one (x : RunQ) (n d : Int) : InC [x] n d ↔ In1 x n d := by rw [inC_cons]; exact ⟨fun h => h.elim id fun h => (inC_nil n d h).elim, .inl⟩
/-- One run lies behind another one, and they don't touch. -/
def Gap (p q : RunQ) : Prop := p.1 < q.1 ∨ (p.1 = q.1 ∧ p.2.2 + 2 ≤ q.2.1)
theorem gapB_gap {p q : RunQ} : gapB p q = true ↔ Gap p q := by
  unfold gapB Gap
  simp only [Bool.not_eq_true', Bool.or_eq_false_iff, Bool.and_eq_false_iff, decide_eq_false_iff_not]
  omega
def Rt (c : List RunQ) : Prop := (∀ r ∈ c, goodR r = true) ∧ c.Pairwise Gap
theorem Rt.nil : Rt [] := ⟨by simp, .nil⟩
theorem rt_cons {x : RunQ} {c : List RunQ} : Rt (x :: c) ↔ goodR x = true ∧ (∀ q ∈ c, Gap x q) ∧ Rt c := by
  unfold Rt
  rw [List.pairwise_cons]
  constructor
  · rintro ⟨h1, h2, h3⟩; exact ⟨h1 x (by simp), h2, fun r hr => h1 r (by simp [hr]), h3⟩
  · rintro ⟨h1, h2, h3, h4⟩
    refine ⟨fun r hr => ?_, h2, h4⟩
    rcases List.mem_cons.1 hr with rfl | hr
    · exact h1
    · exact h3 r hr
theorem gap_trans {p q r : RunQ} (hq : goodR q = true) (h1 : Gap p q) (h2 : Gap q r) : Gap p r := by
  have := goodR_of.1 hq
  unfold Gap at *
  omega
theorem rightC_rt {c : List RunQ} : rightC c = true ↔ Rt c := by
  rw [rightC_of]
  have hat : ∀ i (hi : i < c.length), runAt c i = c[i] := fun i hi => by unfold runAt; rw [List.getElem?_eq_getElem hi]; rfl
  constructor
  · intro h
    refine ⟨fun r hr => ?_, ?_⟩
    · obtain ⟨i, hi, rfl⟩ := List.mem_iff_getElem.1 hr
      rw [← hat i hi]; exact (h i hi).1
    · rw [List.pairwise_iff_getElem]
      have key : ∀ (d i : Nat), i + d + 1 < c.length → Gap (runAt c i) (runAt c (i + d + 1)) := by
        intro d
        induction d with
        | zero => intro i hi; exact gapB_gap.1 ((h (i + 1) hi).2 (by omega))
        | succ d ih =>
          intro i hi
          have h1 := ih i (by omega)
          have h2 := gapB_gap.1 ((h (i + (d + 1) + 1) hi).2 (by omega))
          rw [show i + (d + 1) + 1 - 1 = i + d + 1 by omega] at h2
          exact gap_trans (h (i + d + 1) (by omega)).1 h1 h2
      intro i j hi hj hij
      have := key (j - i - 1) i (by omega)
      rw [show i + (j - i - 1) + 1 = j by omega, hat i hi, hat j hj] at this
      exact this
  · rintro ⟨h1, h2⟩ i hi
    refine ⟨?_, fun h0 => gapB_gap.2 ?_⟩
    · rw [hat i hi]; exact h1 _ (List.getElem_mem hi)
    · rw [List.pairwise_iff_getElem] at h2
      rw [hat i hi, hat (i - 1) (by omega)]
      exact h2 (i - 1) i (by omega) hi (by omega)
theorem withinB_in {c : List RunQ} {n d : Int} : withinB c (n, d, d) = true ↔ InC c n d := by
  unfold withinB InC inR In1
  rw [List.any_eq_true]
  simp only [decide_eq_true_iff]
theorem in_good {c : List RunQ} {n d : Int} (h : Rt c) (hi : InC c n d) : goodB n d = true := by
  obtain ⟨r, hr, h1, h2, h3⟩ := hi
  have := goodR_of.1 (h.1 r hr)
  rw [goodB_of]
  omega
theorem hasC_in {c : List RunQ} {n d : Int} (h : Rt c) : hasC c n d = true ↔ InC c n d := by
  unfold hasC
  rw [rightC_rt.2 h, Bool.true_and, Bool.and_eq_true, withinB_in]
  exact ⟨fun h => h.2, fun hi => ⟨in_good h hi, hi⟩⟩
theorem in_start {x : RunQ} (h : goodR x = true) : In1 x x.1 x.2.1 := by have := goodR_of.1 h; exact ⟨rfl, by omega, by omega⟩
/-- What a right clock has says which it is. -/
theorem rt_ext : ∀ (a b : List RunQ), Rt a → Rt b → (∀ n d, InC a n d ↔ InC b n d) → a = b
  | [], [], _, _, _ => rfl
  | [], y :: b, _, hb, h => ((inC_nil y.1 y.2.1 ((h _ _).2 ((inC_cons _ _ _ _).2 (.inl (in_start (rt_cons.1 hb).1)))))).elim
  | x :: a, [], ha, _, h => ((inC_nil x.1 x.2.1 ((h _ _).1 ((inC_cons _ _ _ _).2 (.inl (in_start (rt_cons.1 ha).1)))))).elim
  | x :: a, y :: b, ha, hb, h => by
    obtain ⟨gx, px, ha'⟩ := rt_cons.1 ha
    obtain ⟨gy, py, hb'⟩ := rt_cons.1 hb
    have gx' := goodR_of.1 gx
    have gy' := goodR_of.1 gy
    have hx : In1 y x.1 x.2.1 ∨ ∃ q ∈ b, In1 q x.1 x.2.1 := (inC_cons _ _ _ _).1 ((h _ _).1 ((inC_cons _ _ _ _).2 (.inl (in_start gx))))
    have hy : In1 x y.1 y.2.1 ∨ ∃ q ∈ a, In1 q y.1 y.2.1 := (inC_cons _ _ _ _).1 ((h _ _).2 ((inC_cons _ _ _ _).2 (.inl (in_start gy))))
    have hs : x.1 = y.1 ∧ x.2.1 = y.2.1 := by
      rcases hx with hx | ⟨q, hq, hx⟩ <;> rcases hy with hy | ⟨p, hp, hy⟩
      · unfold In1 at hx hy; omega
      · have := px p hp; unfold In1 Gap at *; omega
      · have := py q hq; unfold In1 Gap at *; omega
      · have := px p hp; have := py q hq; unfold In1 Gap at *; omega
    have he1 : y.2.2 ≤ x.2.2 := by
      refine Int.not_lt.1 fun hl => ?_
      rcases (inC_cons _ _ _ _).1 ((h x.1 (x.2.2 + 1)).2 ((inC_cons _ _ _ _).2 (.inl (by unfold In1; omega)))) with h1 | ⟨p, hp, h1⟩
      · unfold In1 at h1; omega
      · have := px p hp; unfold In1 Gap at *; omega
    have he2 : x.2.2 ≤ y.2.2 := by
      refine Int.not_lt.1 fun hl => ?_
      rcases (inC_cons _ _ _ _).1 ((h y.1 (y.2.2 + 1)).1 ((inC_cons _ _ _ _).2 (.inl (by unfold In1; omega)))) with h1 | ⟨p, hp, h1⟩
      · unfold In1 at h1; omega
      · have := py p hp; unfold In1 Gap at *; omega
    have e : x = y := by
      obtain ⟨x1, x2, x3⟩ := x
      obtain ⟨y1, y2, y3⟩ := y
      simp only [Prod.mk.injEq]
      dsimp only at *
      omega
    subst e
    rw [rt_ext a b ha' hb' fun n d => ?_]
    have h1 := h n d
    rw [inC_cons, inC_cons] at h1
    constructor
    · intro hi
      rcases h1.1 (.inr hi) with h2 | h2
      · obtain ⟨p, hp, hi⟩ := hi
        have := px p hp; have := goodR_of.1 (ha'.1 p hp); unfold In1 Gap at *; omega
      · exact h2
    · intro hi
      rcases h1.2 (.inr hi) with h2 | h2
      · obtain ⟨p, hp, hi⟩ := hi
        have := py p hp; have := goodR_of.1 (hb'.1 p hp); unfold In1 Gap at *; omega
      · exact h2
/-- A run begins not behind another one. -/
def Le1 (q x : RunQ) : Prop := q.1 < x.1 ∨ (q.1 = x.1 ∧ q.2.1 ≤ x.2.1)
theorem Le1.trans {p q r : RunQ} (h1 : Le1 p q) (h2 : Le1 q r) : Le1 p r := by unfold Le1 at *; omega
theorem Gap.le {p q : RunQ} (h : Gap p q) (g : goodR p = true) : Le1 p q := by have := goodR_of.1 g; unfold Gap at h; unfold Le1; omega
theorem layC_snoc (l : List RunQ) (p r : RunQ) : layC (l ++ [p]) r = if p.1 = r.1 ∧ r.2.1 ≤ p.2.2 + 1 then l ++ [(p.1, p.2.1, max p.2.2 r.2.2)] else l ++ [p] ++ [r] := by
  unfold layC layR
  rw [List.getLast?_concat]
  dsimp only
  by_cases h : p.1 = r.1 ∧ r.2.1 ≤ p.2.2 + 1
  · rw [if_pos h, if_pos h]; dsimp only; rw [List.dropLast_concat]
  · rw [if_neg h, if_neg h]
theorem layC_spec {acc : List RunQ} {r : RunQ} (ha : Rt acc) (hr : goodR r = true) (hl : ∀ q ∈ acc, Le1 q r) :
    Rt (layC acc r) ∧ (∀ n d, InC (layC acc r) n d ↔ InC acc n d ∨ In1 r n d) ∧ ∀ x, Le1 r x → (∀ q ∈ acc, Le1 q x) → ∀ q ∈ layC acc r, Le1 q x := by
  rcases List.eq_nil_or_concat acc with rfl | ⟨l, p, hlp⟩
  · have e : layC [] r = [r] := rfl
    rw [e]
    refine ⟨rt_cons.2 ⟨hr, by simp, Rt.nil⟩, fun n d => ?_, fun x hx _ q hq => by rw [List.mem_singleton.1 hq]; exact hx⟩
    rw [inC_one]
    exact ⟨.inr, fun h => h.elim (fun h => (inC_nil n d h).elim) id⟩
  · rw [List.concat_eq_append] at hlp
    subst hlp
    have hp := goodR_of.1 (ha.1 p (by simp))
    have hr' := goodR_of.1 hr
    have hpr := hl p (by simp)
    have hpw := List.pairwise_append.1 ha.2
    rw [layC_snoc]
    split
    · rename_i h
      refine ⟨⟨fun q hq => ?_, ?_⟩, fun n d => ?_, fun x hx hacc q hq => ?_⟩
      · rcases List.mem_append.1 hq with hq | hq
        · exact ha.1 q (by simp [hq])
        · rw [List.mem_singleton.1 hq, goodR_of]; dsimp only; omega
      · rw [List.pairwise_append]
        refine ⟨hpw.1, by simp, fun u hu v hv => ?_⟩
        have h1 := hpw.2.2 u hu p (by simp)
        rw [List.mem_singleton.1 hv]
        unfold Gap at *
        dsimp only
        exact h1
      · rw [inC_append, inC_append, inC_one, inC_one]
        unfold In1 Le1 at *
        dsimp only
        constructor
        · rintro (h1 | h1)
          · exact .inl (.inl h1)
          · by_cases h2 : d ≤ p.2.2
            · exact .inl (.inr (by omega))
            · exact .inr (by omega)
        · rintro ((h1 | h1) | h1)
          · exact .inl h1
          · exact .inr (by omega)
          · exact .inr (by omega)
      · rcases List.mem_append.1 hq with hq | hq
        · exact hacc q (by simp [hq])
        · have := hacc p (by simp)
          rw [List.mem_singleton.1 hq]
          exact this
    · rename_i h
      refine ⟨⟨fun q hq => ?_, ?_⟩, fun n d => ?_, fun x hx hacc q hq => ?_⟩
      · rcases List.mem_append.1 hq with hq | hq
        · exact ha.1 q hq
        · rw [List.mem_singleton.1 hq]; exact hr
      · rw [List.pairwise_append]
        refine ⟨ha.2, by simp, fun u hu v hv => ?_⟩
        rw [List.mem_singleton.1 hv]
        have hg : Gap p r := by unfold Gap; unfold Le1 at hpr; omega
        rcases List.mem_append.1 hu with hu | hu
        · exact gap_trans (ha.1 p (by simp)) (hpw.2.2 u hu p (by simp)) hg
        · rw [List.mem_singleton.1 hu]; exact hg
      · rw [inC_append, inC_one]
      · rcases List.mem_append.1 hq with hq | hq
        · exact hacc q hq
        · rw [List.mem_singleton.1 hq]; exact hx
theorem joinN_spec : ∀ (f : Nat) (xs ys acc : List RunQ), xs.length + ys.length ≤ f → Rt xs → Rt ys → Rt acc → (∀ q ∈ acc, ∀ x ∈ xs, Le1 q x) → (∀ q ∈ acc, ∀ x ∈ ys, Le1 q x) →
    Rt (joinN f xs ys acc) ∧ ∀ n d, InC (joinN f xs ys acc) n d ↔ InC acc n d ∨ InC xs n d ∨ InC ys n d
  | 0, xs, ys, acc, hf, _, _, ha, _, _ => by
    obtain rfl : xs = [] := List.length_eq_zero_iff.1 (by omega)
    obtain rfl : ys = [] := List.length_eq_zero_iff.1 (by omega)
    exact ⟨ha, fun n d => ⟨.inl, fun h => h.elim id fun h => h.elim (fun h => (inC_nil n d h).elim) fun h => (inC_nil n d h).elim⟩⟩
  | f + 1, [], [], acc, hf, _, _, ha, _, _ => ⟨ha, fun n d => ⟨.inl, fun h => h.elim id fun h => h.elim (fun h => (inC_nil n d h).elim) fun h => (inC_nil n d h).elim⟩⟩
  | f + 1, x :: xs, [], acc, hf, hx, hy, ha, h1, h2 => by
    obtain ⟨gx, px, hx'⟩ := rt_cons.1 hx
    obtain ⟨s1, s2, s3⟩ := layC_spec ha gx (fun q hq => h1 q hq x (by simp))
    simp only [List.length_cons, List.length_nil] at hf
    obtain ⟨t1, t2⟩ := joinN_spec f xs [] (layC acc x) (by simp only [List.length_nil]; omega) hx' hy s1 (fun q hq z hz => s3 z ((px z hz).le gx) (fun q hq => h1 q hq z (by simp [hz])) q hq) (by simp)
    refine ⟨t1, fun n d => ?_⟩
    have := t2 n d
    rw [s2 n d] at this
    refine this.trans ?_
    rw [inC_cons]
    constructor
    · rintro ((h | h) | h | h)
      · exact .inl h
      · exact .inr (.inl (.inl h))
      · exact .inr (.inl (.inr h))
      · exact .inr (.inr h)
    · rintro (h | (h | h) | h)
      · exact .inl (.inl h)
      · exact .inl (.inr h)
      · exact .inr (.inl h)
      · exact .inr (.inr h)
  | f + 1, [], y :: ys, acc, hf, hx, hy, ha, h1, h2 => by
    obtain ⟨gy, py, hy'⟩ := rt_cons.1 hy
    obtain ⟨s1, s2, s3⟩ := layC_spec ha gy (fun q hq => h2 q hq y (by simp))
    simp only [List.length_cons, List.length_nil] at hf
    obtain ⟨t1, t2⟩ := joinN_spec f [] ys (layC acc y) (by simp only [List.length_nil]; omega) hx hy' s1 (by simp) (fun q hq z hz => s3 z ((py z hz).le gy) (fun q hq => h2 q hq z (by simp [hz])) q hq)
    refine ⟨t1, fun n d => ?_⟩
    have := t2 n d
    rw [s2 n d] at this
    refine this.trans ?_
    rw [inC_cons]
    constructor
    · rintro ((h | h) | h | h)
      · exact .inl h
      · exact .inr (.inr (.inl h))
      · exact .inr (.inl h)
      · exact .inr (.inr (.inr h))
    · rintro (h | h | h | h)
      · exact .inl (.inl h)
      · exact .inr (.inl h)
      · exact .inl (.inr h)
      · exact .inr (.inr h)
  | f + 1, x :: xs, y :: ys, acc, hf, hx, hy, ha, h1, h2 => by
    obtain ⟨gx, px, hx'⟩ := rt_cons.1 hx
    obtain ⟨gy, py, hy'⟩ := rt_cons.1 hy
    simp only [List.length_cons] at hf
    show Rt (if aheadB x y then joinN f xs (y :: ys) (layC acc x) else joinN f (x :: xs) ys (layC acc y)) ∧ ∀ n d, InC (if aheadB x y then joinN f xs (y :: ys) (layC acc x) else joinN f (x :: xs) ys (layC acc y)) n d ↔ _
    by_cases hb : aheadB x y = true
    · rw [if_pos hb]
      have hxy : Le1 x y := by unfold aheadB at hb; simp only [Bool.or_eq_true, Bool.and_eq_true, decide_eq_true_iff] at hb; unfold Le1; omega
      obtain ⟨s1, s2, s3⟩ := layC_spec ha gx (fun q hq => h1 q hq x (by simp))
      obtain ⟨t1, t2⟩ := joinN_spec f xs (y :: ys) (layC acc x) (by simp only [List.length_cons]; omega) hx' hy s1 (fun q hq z hz => s3 z ((px z hz).le gx) (fun q hq => h1 q hq z (by simp [hz])) q hq)
        (fun q hq z hz => s3 z (by rcases List.mem_cons.1 hz with rfl | hz; exact hxy; exact hxy.trans ((py z hz).le gy)) (fun q hq => h2 q hq z hz) q hq)
      refine ⟨t1, fun n d => ?_⟩
      have := t2 n d
      rw [s2 n d] at this
      refine this.trans ?_
      rw [inC_cons x xs]
      constructor
      · rintro ((h | h) | h | h)
        · exact .inl h
        · exact .inr (.inl (.inl h))
        · exact .inr (.inl (.inr h))
        · exact .inr (.inr h)
      · rintro (h | (h | h) | h)
        · exact .inl (.inl h)
        · exact .inl (.inr h)
        · exact .inr (.inl h)
        · exact .inr (.inr h)
    · rw [if_neg hb]
      have hyx : Le1 y x := by
        have hb : aheadB x y = false := by simpa using hb
        unfold aheadB at hb; simp only [Bool.or_eq_false_iff, Bool.and_eq_false_iff, decide_eq_false_iff_not] at hb; unfold Le1; omega
      obtain ⟨s1, s2, s3⟩ := layC_spec ha gy (fun q hq => h2 q hq y (by simp))
      obtain ⟨t1, t2⟩ := joinN_spec f (x :: xs) ys (layC acc y) (by simp only [List.length_cons]; omega) hx hy' s1
        (fun q hq z hz => s3 z (by rcases List.mem_cons.1 hz with rfl | hz; exact hyx; exact hyx.trans ((px z hz).le gx)) (fun q hq => h1 q hq z hz) q hq)
        (fun q hq z hz => s3 z ((py z hz).le gy) (fun q hq => h2 q hq z (by simp [hz])) q hq)
      refine ⟨t1, fun n d => ?_⟩
      have := t2 n d
      rw [s2 n d] at this
      refine this.trans ?_
      rw [inC_cons y ys]
      constructor
      · rintro ((h | h) | h | h)
        · exact .inl h
        · exact .inr (.inr (.inl h))
        · exact .inr (.inl h)
        · exact .inr (.inr (.inr h))
      · rintro (h | h | h | h)
        · exact .inl (.inl h)
        · exact .inr (.inl h)
        · exact .inl (.inr h)
        · exact .inr (.inr h)
theorem joinC_eq {a b : List RunQ} (ha : Rt a) (hb : Rt b) : joinC a b = joinN (a.length + b.length) a b [] := by unfold joinC; rw [rightC_rt.2 ha, rightC_rt.2 hb]; rfl
theorem join_rt {a b : List RunQ} (ha : Rt a) (hb : Rt b) : Rt (joinC a b) := by rw [joinC_eq ha hb]; exact (joinN_spec _ a b [] (Nat.le_refl _) ha hb Rt.nil (by simp) (by simp)).1
theorem join_in {a b : List RunQ} (ha : Rt a) (hb : Rt b) (n d : Int) : InC (joinC a b) n d ↔ InC a n d ∨ InC b n d := by
  rw [joinC_eq ha hb]
  refine ((joinN_spec _ a b [] (Nat.le_refl _) ha hb Rt.nil (by simp) (by simp)).2 n d).trans ?_
  exact ⟨fun h => h.elim (fun h => (inC_nil n d h).elim) id, .inr⟩
theorem joinN_len : ∀ (f : Nat) (xs ys acc : List RunQ), (joinN f xs ys acc).length ≤ acc.length + xs.length + ys.length
  | 0, xs, ys, acc => by unfold joinN; omega
  | f + 1, [], [], acc => by unfold joinN; simp
  | f + 1, x :: xs, [], acc => by
    have h1 := joinN_len f xs [] (layC acc x); have h2 := layC_len acc x
    show (joinN f xs [] (layC acc x)).length ≤ _
    simp only [List.length_cons, List.length_nil] at *; omega
  | f + 1, [], y :: ys, acc => by
    have h1 := joinN_len f [] ys (layC acc y); have h2 := layC_len acc y
    show (joinN f [] ys (layC acc y)).length ≤ _
    simp only [List.length_cons, List.length_nil] at *; omega
  | f + 1, x :: xs, y :: ys, acc => by
    have h1 := joinN_len f xs (y :: ys) (layC acc x); have h2 := layC_len acc x
    have h3 := joinN_len f (x :: xs) ys (layC acc y); have h4 := layC_len acc y
    show (if aheadB x y then joinN f xs (y :: ys) (layC acc x) else joinN f (x :: xs) ys (layC acc y)).length ≤ _
    split <;> simp only [List.length_cons] at * <;> omega
theorem joinC_len (a b : List RunQ) : (joinC a b).length ≤ a.length + b.length := by
  unfold joinC
  split
  · have := joinN_len (a.length + b.length) a b []; simp only [List.length_nil] at this; omega
  · simp

end Go.Proofs.YtbbfibgijackhaaGreatDoor

namespace Go.Proofs.YtbbfibgijackhaaGreatDoor
open Go.RowKit

theorem endsB_no {h r : RunQ} : endsB h r = false ↔ ¬ (h.1 < r.1 ∨ (h.1 = r.1 ∧ h.2.2 < r.2.1)) := by
  unfold endsB
  simp only [Bool.or_eq_false_iff, Bool.and_eq_false_iff, decide_eq_false_iff_not]
  omega
theorem lessI_rest : ∀ (hs : List RunQ) (r : RunQ) (rest : List RunQ), lessI hs r rest = rest ++ lessI hs r []
  | [], r, rest => by unfold lessI; simp
  | h :: hs, r, rest => by
    unfold lessI
    by_cases h1 : h.1 ≠ r.1 ∨ r.2.2 < h.2.1
    · rw [if_pos h1, if_pos h1]; simp
    · rw [if_neg h1, if_neg h1]
      by_cases h2 : r.2.2 ≤ h.2.2
      · rw [if_pos h2, if_pos h2]; split <;> simp
      · rw [if_neg h2, if_neg h2]
        rw [lessI_rest hs _ (if r.2.1 < h.2.1 then rest ++ [(r.1, r.2.1, h.2.1 - 1)] else rest), lessI_rest hs _ (if r.2.1 < h.2.1 then [] ++ [(r.1, r.2.1, h.2.1 - 1)] else [])]
        split <;> simp
theorem lessI_spec : ∀ (hs : List RunQ) (r : RunQ), Rt hs → goodR r = true → (∀ h ∈ hs, endsB h r = false) →
    Rt (lessI hs r []) ∧ (∀ n d, InC (lessI hs r []) n d ↔ In1 r n d ∧ ¬ InC hs n d) ∧ ∀ q ∈ lessI hs r [], q.1 = r.1 ∧ r.2.1 ≤ q.2.1 ∧ q.2.2 ≤ r.2.2
  | [], r, _, hr, _ => by
    have e : lessI [] r [] = [r] := rfl
    rw [e]
    refine ⟨rt_cons.2 ⟨hr, by simp, Rt.nil⟩, fun n d => ?_, fun q hq => by rw [List.mem_singleton.1 hq]; omega⟩
    rw [inC_one]
    exact ⟨fun h => ⟨h, inC_nil n d⟩, fun h => h.1⟩
  | h :: hs, r, hh, hr, he => by
    obtain ⟨gh, ph, hh'⟩ := rt_cons.1 hh
    have gh' := goodR_of.1 gh
    have gr' := goodR_of.1 hr
    have hne := endsB_no.1 (he h (by simp))
    unfold lessI
    by_cases h1 : h.1 ≠ r.1 ∨ r.2.2 < h.2.1
    · rw [if_pos h1, List.nil_append]
      refine ⟨rt_cons.2 ⟨hr, by simp, Rt.nil⟩, fun n d => ?_, fun q hq => by rw [List.mem_singleton.1 hq]; omega⟩
      rw [inC_one, inC_cons]
      refine ⟨fun hi => ⟨hi, ?_⟩, fun h => h.1⟩
      rintro (h2 | ⟨q, hq, h2⟩)
      · unfold In1 at hi h2; omega
      · have := ph q hq; unfold In1 Gap at *; omega
    · rw [if_neg h1]
      by_cases h2 : r.2.2 ≤ h.2.2
      · rw [if_pos h2]
        by_cases h3 : r.2.1 < h.2.1
        · rw [if_pos h3, List.nil_append]
          refine ⟨rt_cons.2 ⟨by rw [goodR_of]; dsimp only; omega, by simp, Rt.nil⟩, fun n d => ?_, fun q hq => by rw [List.mem_singleton.1 hq]; dsimp only; omega⟩
          rw [inC_one, inC_cons]
          constructor
          · intro hi
            refine ⟨by unfold In1 at *; dsimp only at hi; omega, ?_⟩
            rintro (h4 | ⟨q, hq, h4⟩)
            · unfold In1 at hi h4; dsimp only at hi; omega
            · have := ph q hq; unfold In1 Gap at *; dsimp only at hi; omega
          · rintro ⟨hi, h4⟩
            have h5 : ¬ In1 h n d := fun h => h4 (.inl h)
            unfold In1 at *
            dsimp only
            omega
        · rw [if_neg h3]
          refine ⟨Rt.nil, fun n d => ⟨fun hi => (inC_nil n d hi).elim, fun ⟨hi, h4⟩ => ?_⟩, by simp⟩
          exact (h4 ((inC_cons _ _ _ _).2 (.inl (by unfold In1 at *; omega)))).elim
      · rw [if_neg h2, lessI_rest]
        obtain ⟨s1, s2, s3⟩ := lessI_spec hs (r.1, h.2.2 + 1, r.2.2) hh' (by rw [goodR_of]; dsimp only; omega) (fun q hq => by
          have := ph q hq; have := goodR_of.1 (hh'.1 q hq); rw [endsB_no]; unfold Gap at this; dsimp only; unfold Gap at *; omega)
        have hlater : ∀ n d, In1 r n d → InC hs n d → h.2.2 + 2 ≤ d := by
          rintro n d hi ⟨q, hq, h4⟩
          have := ph q hq; unfold In1 Gap at *; omega
        by_cases h3 : r.2.1 < h.2.1
        · rw [if_pos h3, List.nil_append]
          refine ⟨⟨fun q hq => ?_, ?_⟩, fun n d => ?_, fun q hq => ?_⟩
          · rcases List.mem_append.1 hq with hq | hq
            · rw [List.mem_singleton.1 hq, goodR_of]; dsimp only; omega
            · exact s1.1 q hq
          · rw [List.pairwise_append]
            refine ⟨by simp, s1.2, fun u hu v hv => ?_⟩
            have := s3 v hv
            rw [List.mem_singleton.1 hu]
            unfold Gap
            dsimp only at *
            omega
          · rw [inC_append, inC_one, s2, inC_cons]
            constructor
            · rintro (hi | ⟨hi, h4⟩)
              · have hi' : In1 r n d := by unfold In1 at *; dsimp only at hi; omega
                refine ⟨hi', ?_⟩
                rintro (h5 | h5)
                · unfold In1 at *; dsimp only at hi; omega
                · have := hlater n d hi' h5; unfold In1 at *; dsimp only at hi; omega
              · refine ⟨by unfold In1 at *; dsimp only at hi; omega, ?_⟩
                rintro (h5 | h5)
                · unfold In1 at *; dsimp only at hi; omega
                · exact h4 h5
            · rintro ⟨hi, h4⟩
              have h5 : ¬ In1 h n d := fun h => h4 (.inl h)
              by_cases h6 : d < h.2.1
              · left; unfold In1 at *; dsimp only; omega
              · right; exact ⟨by unfold In1 at *; dsimp only; omega, fun h => h4 (.inr h)⟩
          · rcases List.mem_append.1 hq with hq | hq
            · rw [List.mem_singleton.1 hq]; dsimp only; omega
            · have := s3 q hq; dsimp only at this; omega
        · rw [if_neg h3, List.nil_append]
          refine ⟨s1, fun n d => ?_, fun q hq => by have := s3 q hq; dsimp only at this; omega⟩
          rw [s2, inC_cons]
          constructor
          · rintro ⟨hi, h4⟩
            refine ⟨by unfold In1 at *; dsimp only at hi; omega, ?_⟩
            rintro (h5 | h5)
            · unfold In1 at *; dsimp only at hi; omega
            · exact h4 h5
          · rintro ⟨hi, h4⟩
            have h5 : ¬ In1 h n d := fun h => h4 (.inl h)
            exact ⟨by unfold In1 at *; dsimp only; omega, fun h => h4 (.inr h)⟩
theorem dropH_cons (r h : RunQ) (hs : List RunQ) : dropH r (h :: hs) = if endsB h r = true then dropH r hs else h :: hs := by
  unfold dropH
  rw [List.dropWhile_cons]
theorem dropH_spec (r : RunQ) : ∀ hs : List RunQ, Rt hs → Rt (dropH r hs) ∧ (∀ h ∈ dropH r hs, endsB h r = false) ∧ ∀ n d, InC hs n d → ¬ InC (dropH r hs) n d → (n < r.1 ∨ (n = r.1 ∧ d < r.2.1))
  | [], _ => ⟨Rt.nil, by simp [dropH], fun n d h => (inC_nil n d h).elim⟩
  | h :: hs, hh => by
    obtain ⟨gh, ph, hh'⟩ := rt_cons.1 hh
    obtain ⟨s1, s2, s3⟩ := dropH_spec r hs hh'
    rw [dropH_cons]
    by_cases he : endsB h r = true
    · rw [if_pos he]
      refine ⟨s1, s2, fun n d hi hn => ?_⟩
      rcases (inC_cons _ _ _ _).1 hi with hi | hi
      · have hE : h.1 < r.1 ∨ (h.1 = r.1 ∧ h.2.2 < r.2.1) := by unfold endsB at he; simpa using he
        unfold In1 at hi; omega
      · exact s3 n d hi hn
    · rw [if_neg he]
      refine ⟨hh, fun q hq => ?_, fun n d hi hn => (hn hi).elim⟩
      have he : endsB h r = false := by simpa using he
      have h1 := endsB_no.1 he
      rw [endsB_no]
      rcases List.mem_cons.1 hq with rfl | hq
      · exact h1
      · have := ph q hq
        have := goodR_of.1 (hh'.1 q hq)
        have := goodR_of.1 gh
        unfold Gap at *
        omega
theorem lessN_rest : ∀ (al hs rest : List RunQ), lessN al hs rest = rest ++ lessN al hs []
  | [], hs, rest => by unfold lessN; simp
  | r :: al, hs, rest => by
    unfold lessN
    rw [lessN_rest al (dropH r hs) (lessI (dropH r hs) r rest), lessN_rest al (dropH r hs) (lessI (dropH r hs) r []), lessI_rest (dropH r hs) r rest, List.append_assoc]
theorem lessN_spec : ∀ (al hs : List RunQ), Rt al → Rt hs →
    Rt (lessN al hs []) ∧ (∀ n d, InC (lessN al hs []) n d ↔ InC al n d ∧ ¬ InC hs n d) ∧ ∀ q ∈ lessN al hs [], ∃ r ∈ al, q.1 = r.1 ∧ r.2.1 ≤ q.2.1 ∧ q.2.2 ≤ r.2.2
  | [], hs, _, _ => ⟨Rt.nil, fun n d => ⟨fun h => (inC_nil n d h).elim, fun h => (inC_nil n d h.1).elim⟩, by simp [lessN]⟩
  | r :: al, hs, ha, hh => by
    obtain ⟨gr, pr, ha'⟩ := rt_cons.1 ha
    have gr' := goodR_of.1 gr
    obtain ⟨d1, d2, d3⟩ := dropH_spec r hs hh
    obtain ⟨i1, i2, i3⟩ := lessI_spec (dropH r hs) r d1 gr d2
    obtain ⟨s1, s2, s3⟩ := lessN_spec al (dropH r hs) ha' d1
    have hsub : ∀ n d, InC (dropH r hs) n d → InC hs n d := fun n d ⟨q, hq, hi⟩ => ⟨q, dropH_mem hq, hi⟩
    unfold lessN
    rw [lessN_rest]
    refine ⟨⟨fun q hq => ?_, ?_⟩, fun n d => ?_, fun q hq => ?_⟩
    · rcases List.mem_append.1 hq with hq | hq
      · exact i1.1 q hq
      · exact s1.1 q hq
    · rw [List.pairwise_append]
      refine ⟨i1.2, s1.2, fun u hu v hv => ?_⟩
      obtain ⟨x, hx, h1⟩ := s3 v hv
      have h2 := pr x hx
      have h3 := i3 u hu
      unfold Gap at *
      omega
    · rw [inC_append, i2, s2, inC_cons]
      constructor
      · rintro (⟨hi, hn⟩ | ⟨hi, hn⟩)
        · exact ⟨.inl hi, fun h => by have := d3 n d h hn; unfold In1 at hi; omega⟩
        · refine ⟨.inr hi, fun h => ?_⟩
          have h1 := d3 n d h hn
          obtain ⟨q, hq, hi⟩ := hi
          have h2 := pr q hq
          unfold In1 Gap at *
          omega
      · rintro ⟨hi | hi, hn⟩
        · exact .inl ⟨hi, fun h => hn (hsub n d h)⟩
        · exact .inr ⟨hi, fun h => hn (hsub n d h)⟩
    · rcases List.mem_append.1 hq with hq | hq
      · exact ⟨r, by simp, i3 q hq⟩
      · obtain ⟨x, hx, h1⟩ := s3 q hq
        exact ⟨x, by simp [hx], h1⟩
theorem less_rt {a b : List RunQ} (ha : Rt a) (hb : Rt b) : Rt (lessC a b) := (lessN_spec a b ha hb).1
theorem less_in {a b : List RunQ} (ha : Rt a) (hb : Rt b) (n d : Int) : InC (lessC a b) n d ↔ InC a n d ∧ ¬ InC b n d := (lessN_spec a b ha hb).2.1 n d
theorem rt_empty {c : List RunQ} (h : Rt c) : c = [] ↔ ∀ n d, ¬ InC c n d := by
  constructor
  · rintro rfl n d; exact inC_nil n d
  · intro h1
    cases c with
    | nil => rfl
    | cons x c => exact (h1 _ _ ((inC_cons _ _ _ _).2 (.inl (in_start (rt_cons.1 h).1)))).elim
/-- Compare. -/
def cmpC (a b : List RunQ) : Int := if rightC a && rightC b then (if lessC a b ≠ [] then (if lessC b a ≠ [] then 2 else 1) else if lessC b a ≠ [] then -1 else 0) else 2
def aboveC (x y : List RunQ) : Bool := decide (cmpC x y = 0 ∨ cmpC x y = 1)
theorem above_in {x y : List RunQ} (hx : Rt x) (hy : Rt y) : aboveC x y = true ↔ ∀ n d, InC y n d → InC x n d := by
  have h1 : lessC y x = [] ↔ ∀ n d, InC y n d → InC x n d := by
    rw [rt_empty (less_rt hy hx)]
    constructor
    · intro h n d hi
      exact Classical.byContradiction fun hn => h n d ((less_in hy hx n d).2 ⟨hi, hn⟩)
    · intro h n d hi
      obtain ⟨h2, h3⟩ := (less_in hy hx n d).1 hi
      exact h3 (h n d h2)
  rw [← h1]
  unfold aboveC cmpC
  rw [rightC_rt.2 hx, rightC_rt.2 hy]
  simp only [Bool.and_self, if_true, decide_eq_true_iff]
  by_cases h2 : lessC y x = []
  · rw [if_neg (show ¬ lessC y x ≠ [] from fun h => h h2), if_neg (show ¬ lessC y x ≠ [] from fun h => h h2)]
    refine ⟨fun _ => h2, fun _ => ?_⟩
    split <;> simp
  · rw [if_pos h2, if_pos h2]
    refine ⟨fun h => ?_, fun h => (h2 h).elim⟩
    split at h <;> simp at h
theorem lessC_len (al hv : List RunQ) : ∀ rest : List RunQ, (lessN al hv rest).length ≤ rest.length + al.length * (hv.length + 1) := by
  induction al generalizing hv with
  | nil => intro rest; unfold lessN; omega
  | cons r al ih =>
    intro rest
    unfold lessN
    have h1 := ih (dropH r hv) (lessI (dropH r hv) r rest)
    have h2 := lessI_len (dropH r hv) r rest
    have h3 := dropH_le r hv
    rw [List.length_cons, Nat.succ_mul]
    have h4 : al.length * ((dropH r hv).length + 1) ≤ al.length * (hv.length + 1) := Nat.mul_le_mul_left _ (by omega)
    omega

end Go.Proofs.YtbbfibgijackhaaGreatDoor

namespace Go.Proofs.YtbbfibgijackhaaGreatDoor
open Go.RowKit

def withC (c : List RunQ) (n d : Int) : List RunQ := if goodB n d then joinC c [(n, d, d)] else []
set_option maxRecDepth 100000 in
set_option maxHeartbeats 1000000 in
theorem with_any (v : Value) (c : List RunQ) (n d : Int) (w : World) (hs : ClSl w v c) (hbig : c.length ≤ 1048575) (hn : I64 n) (hd : I64 d) :
    Calls Tryz.prog 16 #[v, dotV n d] w fun e w' => ∃ v', e = .returned v' ∧ ClSl w' v' (withC c n d) ∧ OwnV w v' w' ∧ Kp Nb w w' := by
  obtain ⟨y, dc, rfl⟩ := hs.shape
  obtain ⟨L, hL⟩ : ∃ L, c.length = L := ⟨_, rfl⟩
  obtain ⟨N, hN⟩ : ∃ N, w.heap.size = N := ⟨_, rfl⟩
  obtain ⟨W, hW⟩ : ∃ W, W = w.alloc (.cells #[.int .i64 n, .int .i64 d] 25) := ⟨_, rfl⟩
  have HB0 : Hid (Blk W N 25 [.int .i64 n, .int .i64 d]) := hid (by rw [hW, ← hN]; exact Blk.new w _ _)
  have K0 : Hid (Kp Nb w W) := hid (by rw [hW]; exact (Kp.refl Nb w).alloc _)
  have HLE := hid hL
  rw [hL] at hs hbig ⊢
  have HS := hid (hs.kept K0.out)
  have HBG := hid hbig
  have HND := hid (show RunOk (n, d, d) from ⟨hn, hd, hd⟩)
  obtain ⟨gb, hgb⟩ : ∃ b, goodB n d = b := ⟨_, rfl⟩
  have HGB := hid hgb
  clear hL hs hgb hn hd
  go_enter Tryz.func16, Tryz.ntmps16
  go_upto_region 1 with fail
  rw [← hW]
  clear hW hN
  have c0 : W.cell? ⟨N, 0, none⟩ = some (.int .i64 n) := HB0.out.cell 0
  have c1 : W.cell? ⟨N, 1, none⟩ = some (.int .i64 d) := HB0.out.cell 1
  go_wp2_with fail
  refine (good_any n d W).mono ?_
  rintro r w2 ⟨rfl, k2⟩
  rw [HGB.out]
  have HB2 := hid (HB0.out.kept k2 (fun h => h))
  have K2 := hid (K0.out.trans k2 (fun _ _ h => h))
  have HS2 := hid (HS.out.kept k2)
  clear k2 c0 c1
  have c0 : w2.cell? ⟨N, 0, none⟩ = some (.int .i64 n) := HB2.out.cell 0
  have c1 : w2.cell? ⟨N, 1, none⟩ = some (.int .i64 d) := HB2.out.cell 1
  cases gb with
  | false =>
    have HE : Hid (withC c n d = []) := hid (by unfold withC; rw [HGB.out]; rfl)
    go_wp2
    go_ret
    exact ⟨_, rfl, by rw [HE.out]; exact cl_nil _, fun g hg => by simp [Value.ownBlock] at hg, K2.out⟩
  | true =>
    have HE : Hid (withC c n d = joinC c [(n, d, d)]) := hid (by unfold withC; rw [HGB.out]; rfl)
    have MK := hid (make_run1 w2 n d d)
    have HM : Hid (ClSl (w2.alloc (.cells #[.int .i64 n, .int .i64 d, .int .i64 d] 61 (0, 0))) (.slice (some ⟨w2.heap.size, 0, none⟩) 1 1) [(n, d, d)]) := hid ⟨runAt_ok (fun q hq => by rw [List.mem_singleton.1 hq]; exact HND.out), rows_oneR (Blk.new w2 61 (runL (n, d, d)))⟩
    have HSM := hid (HS2.out.kept ((Kp.refl Nb w2).alloc (.cells #[.int .i64 n, .int .i64 d, .int .i64 d] 61 (0, 0))))
    have KM : Hid (Kp Nb w (w2.alloc (.cells #[.int .i64 n, .int .i64 d, .int .i64 d] 61 (0, 0)))) := hid (K2.out.alloc _)
    go_wp2_with (first
      | (refine wpList_val (by rfl) _ _ (exec_buildSliceD rfl (qs := #[(0, .agg #[.int .i64 n, .int .i64 d, .int .i64 d])]) (by simp [Act.eval, Act.put]) MK.out) ?_)
      | fail)
    refine (join_any _ _ c [(n, d, d)] _ HSM.out HM.out (by have := HBG.out; have := HLE.out; omega) (by simp)).mono ?_
    rintro r w3 ⟨v3, rfl, hv3, ho3, k3⟩
    have HV3 := hid hv3
    have HO3 := hid ho3
    have K3 := hid (KM.out.trans k3 (fun _ _ h => h))
    have KMs := KM.out.size
    have HKS := hid KMs
    obtain ⟨y3, d3, rfl⟩ := hv3.shape
    clear hv3 ho3 k3 KMs
    go_wp2
    go_ret
    exact ⟨_, rfl, by rw [HE.out]; exact HV3.out, fun g hg => by have h1 := HO3.out g hg; have h2 := HKS.out; exact ⟨by omega, h1.2⟩, K3.out⟩
/-- Two lists compared. -/
theorem cmpC_eq {a b : List RunQ} {n m : Nat} (ha : rightC a = true) (hb : rightC b = true) (hn : (lessC a b).length = n) (hm : (lessC b a).length = m) :
    cmpC a b = if 0 < n then (if 0 < m then 2 else 1) else if 0 < m then -1 else 0 := by
  unfold cmpC
  rw [ha, hb]
  have h1 : lessC a b ≠ [] ↔ 0 < n := by rw [← hn]; exact List.length_pos_iff.symm
  have h2 : lessC b a ≠ [] ↔ 0 < m := by rw [← hm]; exact List.length_pos_iff.symm
  simp only [Bool.and_self, if_true, h1, h2]
set_option maxRecDepth 100000 in
set_option maxHeartbeats 2000000 in
theorem compare_any (va vb : Value) (a b : List RunQ) (w : World) (ha : ClSl w va a) (hb : ClSl w vb b) (la : a.length ≤ 1048576) (lb : b.length ≤ 1048576) :
    Calls Tryz.prog 22 #[va, vb] w fun e w' => e = .returned (.int .i64 (cmpC a b)) ∧ Kp Nb w w' := by
  have CA0 := hid (dright_any va a w ha (by omega))
  have CB0 : Hid (∀ wx, Kp Nb w wx → Calls Tryz.prog 9 #[vb] wx fun e w' => e = .returned (.bool (rightC b)) ∧ Kp Nb wx w') := hid (fun wx k => dright_any vb b wx (hb.kept k) (by omega))
  have CL1 : Hid (rightC a = true → rightC b = true → ∀ wx, Kp Nb w wx → Calls Tryz.prog 45 #[va, vb] wx fun e w' => ∃ v', e = .returned v' ∧ ClSl w' v' (lessC a b) ∧ OwnV wx v' w' ∧ Kp Nb wx w') := hid (fun r1 r2 wx k => less_any va vb a b wx (ha.kept k) (hb.kept k) la lb r1 r2)
  have CL2 : Hid (rightC a = true → rightC b = true → ∀ wx, Kp Nb w wx → Calls Tryz.prog 45 #[vb, va] wx fun e w' => ∃ v', e = .returned v' ∧ ClSl w' v' (lessC b a) ∧ OwnV wx v' w' ∧ Kp Nb wx w') := hid (fun r1 r2 wx k => less_any vb va b a wx (hb.kept k) (ha.kept k) lb la r2 r1)
  obtain ⟨pa, da, rfl⟩ := ha.shape
  obtain ⟨pb, db, rfl⟩ := hb.shape
  obtain ⟨nA, hnA⟩ : ∃ n, a.length = n := ⟨_, rfl⟩
  obtain ⟨nB, hnB⟩ : ∃ n, b.length = n := ⟨_, rfl⟩
  obtain ⟨ra, hra⟩ : ∃ x, rightC a = x := ⟨_, rfl⟩
  obtain ⟨rb, hrb⟩ : ∃ x, rightC b = x := ⟨_, rfl⟩
  have HRA0 := hid hra
  have HRB0 := hid hrb
  rw [hra] at CA0
  rw [hrb] at CB0
  rw [hnA, hnB] at CL1 CL2
  rw [hnA] at CA0
  rw [hnB] at CB0
  rw [hnA, hnB]
  clear ha hb la lb hra hrb hnA hnB
  cases ra with
  | false =>
    have HE : Hid (cmpC a b = 2) := hid (by unfold cmpC; rw [HRA0.out]; rfl)
    go_enter Tryz.func22, Tryz.ntmps22
    go_wp2_with fail
    refine CA0.out.mono ?_
    rintro r w1 ⟨rfl, k1⟩
    go_wp2
    go_ret
    exact ⟨by rw [HE.out]; rfl, k1⟩
  | true =>
    cases rb with
    | false =>
      have HE : Hid (cmpC a b = 2) := hid (by unfold cmpC; rw [HRA0.out, HRB0.out]; rfl)
      go_enter Tryz.func22, Tryz.ntmps22
      go_wp2_with fail
      refine CA0.out.mono ?_
      rintro r w1 ⟨rfl, k1⟩
      go_wp2_with fail
      refine (CB0.out w1 k1).mono ?_
      rintro r w2 ⟨rfl, k2⟩
      go_wp2
      go_ret
      exact ⟨by rw [HE.out]; rfl, k1.trans k2 (fun _ _ h => h)⟩
    | true =>
      obtain ⟨n1, hn1⟩ : ∃ n, (lessC a b).length = n := ⟨_, rfl⟩
      obtain ⟨n2, hn2⟩ : ∃ n, (lessC b a).length = n := ⟨_, rfl⟩
      have HE := hid (cmpC_eq HRA0.out HRB0.out hn1 hn2)
      have C1 : Hid (∀ wx, Kp Nb w wx → Calls Tryz.prog 45 #[.slice pa nA da, .slice pb nB db] wx fun e w' => ∃ y d, e = .returned (.slice y n1 d) ∧ Kp Nb wx w') := hid (fun wx k => (CL1.out HRA0.out HRB0.out wx k).mono (by rintro e w' ⟨v', rfl, hv, -, k⟩; obtain ⟨y, d, rfl⟩ := hv.shape; exact ⟨y, d, by rw [hn1], k⟩))
      have C2 : Hid (∀ wx, Kp Nb w wx → Calls Tryz.prog 45 #[.slice pb nB db, .slice pa nA da] wx fun e w' => ∃ y d, e = .returned (.slice y n2 d) ∧ Kp Nb wx w') := hid (fun wx k => (CL2.out HRA0.out HRB0.out wx k).mono (by rintro e w' ⟨v', rfl, hv, -, k⟩; obtain ⟨y, d, rfl⟩ := hv.shape; exact ⟨y, d, by rw [hn2], k⟩))
      clear CL1 CL2 hn1 hn2
      go_enter Tryz.func22, Tryz.ntmps22
      go_wp2_with fail
      refine CA0.out.mono ?_
      rintro r wa ⟨rfl, k1⟩
      go_wp2_with fail
      refine (CB0.out wa k1).mono ?_
      rintro r w1 ⟨rfl, k2⟩
      have K1 := hid (k1.trans k2 (fun _ _ h => h))
      clear k1 k2 CA0 CB0
      go_wp2_with fail
      refine (C1.out w1 K1.out).mono ?_
      rintro r w2 ⟨y2, d2, rfl, k2⟩
      have K2 := hid (K1.out.trans k2 (fun _ _ h => h))
      clear k2
      go_wp2_with fail
      refine (C2.out w2 K2.out).mono ?_
      rintro r w3 ⟨y3, d3, rfl, k3⟩
      have K3 := hid (K2.out.trans k3 (fun _ _ h => h))
      clear k3
      by_cases h1 : 0 < n1
      · by_cases h2 : 0 < n2
        · have e := HE.out
          rw [if_pos h1, if_pos h2] at e
          have HE2 := hid e
          have g1 : (n1 : Int) > 0 := by omega
          have g2 : (n2 : Int) > 0 := by omega
          clear e h1 h2
          go_wp2
          go_ret
          exact ⟨by rw [HE2.out]; rfl, K3.out⟩
        · have e := HE.out
          rw [if_pos h1, if_neg h2] at e
          have HE2 := hid e
          have g1 : (n1 : Int) > 0 := by omega
          have g2 : ¬ (n2 : Int) > 0 := by omega
          clear e h1 h2
          go_wp2
          go_ret
          exact ⟨by rw [HE2.out]; rfl, K3.out⟩
      · by_cases h2 : 0 < n2
        · have e := HE.out
          rw [if_neg h1, if_pos h2] at e
          have HE2 := hid e
          have g1 : ¬ (n1 : Int) > 0 := by omega
          have g2 : (n2 : Int) > 0 := by omega
          clear e h1 h2
          go_wp2
          go_ret
          exact ⟨by rw [HE2.out]; rfl, K3.out⟩
        · have e := HE.out
          rw [if_neg h1, if_neg h2] at e
          have HE2 := hid e
          have g1 : ¬ (n1 : Int) > 0 := by omega
          have g2 : ¬ (n2 : Int) > 0 := by omega
          clear e h1 h2
          go_wp2
          go_ret
          exact ⟨by rw [HE2.out]; rfl, K3.out⟩
theorem cmpC_i64 (a b : List RunQ) : cmpC a b = -1 ∨ cmpC a b = 0 ∨ cmpC a b = 1 ∨ cmpC a b = 2 := by
  unfold cmpC
  repeat' split
  all_goals simp

end Go.Proofs.YtbbfibgijackhaaGreatDoor
