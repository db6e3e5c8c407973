/-
  Layer 23: walks of Longest, wait, Tick, and of the reference's Tick. Conditions: what an int is; a timer that New has made.
-/
import Derived.Test.YtofjkaemakdmeaaTimB
import Derived.StillTailTactics
import Derived.WalkMore
import Derived.Deep.RegionHeld3
namespace Go.Proofs.Ytofjkaemakdmeaa
open Go.RowKit Go.Shelf
attribute [local go_sem] Oper.semAt_some

def sumW : List (Int × Int) → Int := List.foldl (fun s x => wrap64 (s + x.2)) 0
theorem sumW_snoc (pre : List (Int × Int)) (x : Int × Int) : sumW (pre ++ [x]) = wrap64 (sumW pre + x.2) := by simp [sumW]
/-- The sum of the first k waits. -/
def sumZ (e : Int) : Nat → Int
  | 0 => 0
  | k + 1 => sumZ e k + e * timesZ k
theorem sumZ_le {e : Int} (h1 : 1 ≤ e) (h2 : e ≤ 1000) : ∀ k : Nat, (k : Int) ≤ sumZ e k ∧ sumZ e k ≤ 8000 * (k : Int)
  | 0 => by simp [sumZ]
  | k + 1 => by
    have := sumZ_le h1 h2 k
    have hw := wait_le h1 h2 k
    show _ ≤ sumZ e k + e * timesZ k ∧ sumZ e k + e * timesZ k ≤ _
    omega
theorem sumW_is {e : Int} (h1 : 1 ≤ e) (h2 : e ≤ 1000) : ∀ k : Nat, k ≤ 11 → sumW (waitsTo e k) = sumZ e k
  | 0, _ => rfl
  | k + 1, hk => by
    rw [waitsTo_succ, sumW_snoc, sumW_is h1 h2 k (by omega)]
    have := sumZ_le h1 h2 k
    have hw := wait_le h1 h2 k
    exact IntWalk.wrap64_in _ (by omega)
def longZ (e t : Int) : Int := sumZ e (waitsN e t)
theorem longZ_is (e t : Int) : sumW (waitsL e t) = longZ e t := by
  unfold waitsL longZ
  cases hf : tfitsB e t with
  | false =>
    have : waitsN e t = 0 := by unfold waitsN; rw [hf]; rfl
    rw [this]; rfl
  | true =>
    obtain ⟨h1, h2, -, -⟩ := tfitsB_spec hf
    exact sumW_is h1 h2 _ (waitsN_le e t)

/-- A scope through which the run goes without a goto, outside of a round. -/
theorem wide_scope {P : Program} {n : Nat} {Q : Exit → Act → World → Prop} {a : Act} {w : World} {c : Code} (h : c.wpIn Fence.wide n P (Exit.noGoto Q) a w) : (Code.scope c).wpIn Fence.wide n P Q a w := wpIn_wide.2 (wp_scope_straight (wpIn_wide.1 h))

def LongI (w : World) (pre : List (Int × Int)) (W : World) : Prop := Boxed W w.heap.size 3 (.int .i64 (sumW pre)) ∧ Below w.heap.size w W
theorem longI_own (w : World) {B : Nat} (hB : w.heap.size ≤ B) : OwnFrom B (LongI w) :=
  OwnFrom.and (Own.from (fun s A B row hs hg hr => hs.kept hg (fun e => by
    obtain ⟨o, ho, hc⟩ := hr _ e.symm
    have := (show A.heap[_]? = _ from hs).symm.trans ho
    cases this
    cases hc)) _) (ownFrom_below (Nat.le_refl _) hB)

set_option maxRecDepth 100000 in
set_option maxHeartbeats 2000000 in
theorem long_in (n : Nat) (hn : 3 ≤ n) (e t : Int) (w : World) :
    CallsIn Fence.wide n Try.prog 61 #[.int .i64 e, .int .i64 t] w fun r w' => r = .returned (.int .i64 (longZ e t)) ∧ Below w.heap.size w w' := by
  have h1 : 1 ≤ n := by omega
  refine callsIn_of_wp_marks Try.func61 rfl trivial ?_ rfl
  simp only [Try.ntmps61, List.size_toArray, List.length_cons, List.length_nil, Nat.reduceAdd, Nat.reduceSub, Array.replicate_succ, Array.replicate_zero, List.push_toArray, List.append_toArray, List.nil_append, List.cons_append]
  gi_wp2_with (refine ⟨trivial, ?_⟩; gi_at_call 75; refine (waits0_in (n - 1) e t _).mono ?_; rintro r w' ⟨rfl, rfl⟩)
  have b0 := Boxed.new w 3 (.int .i64 0)
  have b1 := Boxed.new (w.alloc (.cells #[.int .i64 0] 3)) 3 (.int .i64 e)
  have b2 := Boxed.new ((w.alloc (.cells #[.int .i64 0] 3)).alloc (.cells #[.int .i64 e] 3)) 3 (.int .i64 t)
  simp only [World.size_alloc] at b1 b2
  have c0 := (b0.alloc (.cells #[.int .i64 e] 3)).alloc (.cells #[.int .i64 t] 3)
  have c1 := b1.alloc (.cells #[.int .i64 t] 3)
  have hB0 : Below w.heap.size w (((w.alloc (.cells #[.int .i64 0] 3)).alloc (.cells #[.int .i64 e] 3)).alloc (.cells #[.int .i64 t] 3)) := (((Below.refl _ w).alloc (Nat.le_refl _) _).alloc (by simp) _).alloc (by simp; omega) _
  have hsz : (((w.alloc (.cells #[.int .i64 0] 3)).alloc (.cells #[.int .i64 e] 3)).alloc (.cells #[.int .i64 t] 3)).heap.size = w.heap.size + 1 + 1 + 1 := by simp only [World.size_alloc]
  obtain ⟨W0, hW0⟩ : ∃ W0, W0 = (((w.alloc (.cells #[.int .i64 0] 3)).alloc (.cells #[.int .i64 e] 3)).alloc (.cells #[.int .i64 t] 3)) := ⟨_, rfl⟩
  rw [← hW0] at hB0 c0 c1 b2 hsz ⊢
  have HSZ := hid hsz
  have HB0 := hid hB0
  have HC0 := hid c0
  have HC1 := hid c1
  have HC2 := hid b2
  clear hW0 hsz hB0 c0 c1 b2 b0 b1
  refine wpIn_rangeFunc_ownG rfl h1 (gf := 85) (lb := #[.pointer (some ⟨w.heap.size + 1, 0, none⟩), .pointer (some ⟨w.heap.size + 1 + 1, 0, none⟩)]) rfl trivial (enters_of Try.func85 (by kernel_rfl) rfl)
    (waits_stops (n - 1) (by omega) (w.heap.size + 1) (w.heap.size + 1 + 1) e t W0 HC1.out HC2.out) kpL_t (kpL_b (fun b hb => by have := HSZ.out; simp only [List.mem_cons, List.not_mem_nil, or_false] at hb; omega)) (Below.refl _ _) (fun _ => rfl)
    (LongI w) (fun _ _ _ => False) (longI_own w HB0.out.size) (fun _ _ _ _ _ hs _ _ => hs) ⟨HC0.out, HB0.out⟩
    (fun x => { tmps := #[.int .i64 e, .int .i64 t, undef, undef, .int .i64 0, .pointer (some ⟨w.heap.size, 0, none⟩), undef, .int .i64 x.2, .int .i64 e, .int .i64 t, .func (.func 85) #[] #[.pointer (some ⟨w.heap.size + 1, 0, none⟩), .pointer (some ⟨w.heap.size + 1 + 1, 0, none⟩)], .int .i64 x.1, .int .i64 x.2, undef, undef, undef, undef], defers := [] }) ?assign ?body ?done ?stop
  case assign =>
    intro l x W K hK
    gi_wp2
    exact hK
  case body =>
    rintro l pre x W ⟨hb, hB⟩ hlt
    have hc := hb.cell
    have hf := hb.frozen
    have HB := hid hb
    have HBW := hid hB
    clear hb hB
    gi_wp2
    refine ⟨(KeepsOthers.setCell _ _ _).from _, fun b hb => ?_, ?_, HBW.out.setCell (p := ⟨w.heap.size, 0, none⟩) (Nat.le_refl _) _⟩
    · simp only [List.mem_cons, List.not_mem_nil, or_false] at hb
      exact Below.heap_setCell _ _ _ b (by dsimp only; omega)
    · rw [sumW_snoc]
      exact HB.out.set _
  case done =>
    rintro D ys W hD rfl ⟨hb, hB⟩ hK
    rw [longZ_is] at hb
    have hc := hb.cell
    have HBW := hid hB
    have HD := hid hD
    have HK := hid hK
    clear hb hB hD hK
    gi_wp2
    refine ⟨by simp, .inl ⟨_, _, rfl, run_takeDeferred HK.out, ?_⟩⟩
    exact ⟨_, results_tmp rfl _ _ _, rfl, HBW.out.trans (belowK_b (w := w) (Nat.le_refl _) W D _ _ (by have := HSZ.out; have := HD.out; omega) HK.out rfl rfl)⟩
  case stop =>
    rintro D c pre W _ _ h _
    exact h.elim

theorem long_any (e t : Int) (w : World) : Calls Try.prog 61 #[.int .i64 e, .int .i64 t] w fun r w' => r = .returned (.int .i64 (longZ e t)) ∧ Kp Nb w w' :=
  (callsIn_wide.1 (long_in 3 (Nat.le_refl _) e t w)).mono fun _ _ ⟨hr, hB⟩ => ⟨hr, Kp.of_below hB⟩

/-- Between two rounds of wait, and where a round has left. -/
def WaitI (w : World) (T : Nat) (f : Int) (pre : List (Int × Int)) (W : World) : Prop :=
  (Boxed W w.heap.size 91 (.pointer (some ⟨T, 0, none⟩)) ∧ (∃ v, Boxed W (w.heap.size + 1) 3 v) ∧ W.cell? ⟨T, 4, none⟩ = some (.int .i64 f) ∧ ∀ x ∈ pre, x.1 ≠ f) ∧ Below w.heap.size w W
def WaitX (w : World) (f : Int) (c : Code) (pre : List (Int × Int)) (W : World) : Prop :=
  (c = .exit 0 ∧ ∃ x, x ∈ pre ∧ x.1 = f ∧ Boxed W (w.heap.size + 1) 3 (.int .i64 x.2)) ∧ Below w.heap.size w W
theorem boxed_turn {A B : World} {row : Option Nat} {b t : Nat} {u : Value} (hs : Boxed A b t u) (hg : A.grownBy B row) (hr : ∀ r, row = some r → ∃ o : Obj, A.heap[r]? = some o ∧ o.isCells = false) : Boxed B b t u := hs.kept hg (fun e => by
    obtain ⟨o, ho, hc⟩ := hr _ e.symm
    have := (show A.heap[_]? = _ from hs).symm.trans ho
    cases this
    cases hc)
theorem waitI_own (w : World) (T : Nat) (f : Int) {B : Nat} (hB : w.heap.size ≤ B) : OwnFrom B (WaitI w T f) :=
  OwnFrom.and (Own.from (fun s A B row hs hg hr => ⟨boxed_turn hs.1 hg hr, (by obtain ⟨v, hv⟩ := hs.2.1; exact ⟨v, boxed_turn hv hg hr⟩), cell_kept hs.2.2.1 hg hr, hs.2.2.2⟩) _) (ownFrom_below (Nat.le_refl _) hB)
theorem waitX_own (w : World) (f : Int) (c : Code) {B : Nat} (hB : w.heap.size ≤ B) : OwnFrom B (WaitX w f c) :=
  OwnFrom.and (Own.from (fun s A B row hs hg hr => by obtain ⟨hc, x, e1, e2, e3⟩ := hs; exact ⟨hc, x, e1, e2, boxed_turn e3 hg hr⟩) _) (ownFrom_below (Nat.le_refl _) hB)

theorem wait_held {W1 wx : World} {b t : Nat} {T : Nat} {u v0 v1 : Value} (h : Boxed W1 b t u) (h0 : W1.cell? ⟨T, 0, none⟩ = some v0) (h1 : W1.cell? ⟨T, 1, none⟩ = some v1) (k : Kp Nb W1 wx) :
    wx.cell? ⟨b, 0, none⟩ = some u ∧ wx.cell? ⟨T, 0, none⟩ = some v0 ∧ wx.cell? ⟨T, 1, none⟩ = some v1 :=
  ⟨k.cell h.cell (fun h => h), k.cell h0 (fun h => h), k.cell h1 (fun h => h)⟩



end Go.Proofs.Ytofjkaemakdmeaa
