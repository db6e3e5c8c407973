/-
  Layer 9: marks sorted (slices.SortFunc by the shelf): a list that lies in a block of the call's own. Conditions: marks of 16 bytes.
-/
import Derived.Test.YtijlmfmpfjjlpaaMaF
import Derived.Shelf.SlSortCmp.NoneTotal
namespace Go.Proofs.Ytijlmfmpfjjlpaa
open Go.RowKit Go.Shelf Go.Sort
attribute [local go_sem] Oper.semAt_some

abbrev MkT := {m : List Int // MarkOk m}
instance : Inhabited MkT := ⟨⟨List.replicate 16 0, zero_ok⟩⟩
def encM (x : MkT) : List Value := markL x.1
theorem encM_len (x : MkT) : (encM x).length = 16 := by unfold encM; rw [markL_length, x.2.len]
theorem encM_one (x : MkT) : ∀ v ∈ encM x, v.oneCell' = true := markL_one' x.1
def cfM (x y : MkT) : Int := cmpM x.1 y.1
theorem ltM (x y : MkT) : ltOf cfM x y = lexI x.1 y.1 := by
  unfold ltOf cfM
  have h := cmpM_lt x.1 y.1
  cases e : lexI x.1 y.1 with
  | true => rw [e] at h; simpa using h
  | false =>
    rw [e] at h
    have : ¬ cmpM x.1 y.1 < 0 := fun h' => by have := h.1 h'; cases this
    simpa using this
theorem swoM : SWO (ltOf cfM) where
  irrefl x := by rw [ltM]; exact lexI_irr _
  trans x y z h1 h2 := by rw [ltM] at *; exact lexI_trans _ _ _ h1 h2
  ntrans x y z h1 h2 := by
    rw [ltM] at *
    cases h : lexI x.1 z.1 with
    | false => rfl
    | true =>
      cases h3 : lexI y.1 x.1 with
      | true => have := lexI_trans _ _ _ h3 h; rw [h2] at this; cases this
      | false =>
        have e := lexI_tri _ _ h1 h3
        rw [e, h2] at h
        cases h
theorem totM (x y : MkT) (h1 : ltOf cfM x y = false) (h2 : ltOf cfM y x = false) : x = y := by
  rw [ltM] at h1 h2
  exact Subtype.ext (lexI_tri _ _ h1 h2)
/-- A list of marks as an array of the subtype. -/
def dM (ms : List (List Int)) (h : ∀ m ∈ ms, MarkOk m) : Array MkT := (ms.attach.map fun x => (⟨x.1, h x.1 x.2⟩ : MkT)).toArray
theorem dM_val (ms : List (List Int)) (h : ∀ m ∈ ms, MarkOk m) : (dM ms h).toList.map (·.1) = ms := by
  unfold dM
  simp [Function.comp_def]
theorem dM_size (ms : List (List Int)) (h : ∀ m ∈ ms, MarkOk m) : (dM ms h).size = ms.length := by simp [dM]
theorem dM_get (ms : List (List Int)) (h : ∀ m ∈ ms, MarkOk m) (i : Nat) (hi : i < ms.length) : ((dM ms h)[i]!).1 = markAt ms i := by
  have hs : i < (dM ms h).size := by rw [dM_size]; exact hi
  rw [getElem!_pos _ i hs]
  unfold markAt
  rw [List.getElem?_eq_getElem hi]
  simp [dM]
/-- A block's row of marks: whatever its length. -/
theorem holds_own {w : World} {base n g cap : Nat} {ms : List (List Int)} (own : w.ownsRow base 24 16 (.slice (some ⟨g, 0, none⟩) n cap) n (flatR markL ms)) (hn : ms.length = n) (hok : ∀ m ∈ ms, MarkOk m) :
    HoldsK encM 16 w g 0 (dM ms hok) ∧ base ≤ g ∧ g < w.heap.size ∧ n ≤ cap ∧ cap ≤ maxLen := by
  obtain ⟨hl, ⟨e, -⟩ | ⟨g', cap', cur, e, hb, hh, hc, hm, hs, ht⟩⟩ := own
  · injection e with e; cases e
  · injection e with e1 e2 e3
    injection e1 with e1
    injection e1 with e1
    subst e1 e3
    refine ⟨fun j hj => ?_, hb, (Array.getElem?_eq_some_iff.1 hh).1, hc, hm⟩
    rw [size_flatK, dM_size, hn] at hj
    rw [get_flatK _ _ _ _ (by rw [dM_size, hn]; exact hj)]
    have hd : j / 16 < ms.length := by rw [hn]; omega
    have h1 : cur[j]? = (markL (markAt ms (j / 16)))[j % 16]? := by
      have h2 := flatR_get (f := markL) (z := List.replicate 16 0) (c := 16) ms (j / 16) (j % 16) (fun q hq => by rw [markL_length, (hok q hq).len]) hd (Nat.mod_lt _ (by decide))
      rw [show j / 16 * 16 + j % 16 = j from by omega, ← ht, List.getElem?_take, if_pos hj, Array.getElem?_toList] at h2
      exact h2
    have hlt : j % 16 < (markL (markAt ms (j / 16))).length := by
      have := (hok (markAt ms (j / 16)) (by unfold markAt; rw [List.getElem?_eq_getElem hd]; exact List.getElem_mem hd)).len
      rw [markL_length, this]
      exact Nat.mod_lt _ (by decide)
    constructor
    · have e0 : w.cell? ⟨g, 0 + j, none⟩ = cur[j]? := by simp [World.cell?, hh]
      rw [e0]
      rw [h1]
      dsimp only [id]
      unfold encM
      rw [dM_get ms hok _ hd, List.getElem?_eq_getElem hlt, getElem!_pos (markL (markAt ms (j / 16))) (j % 16) hlt]
    · simp [World.frozen?, hh]
theorem kp_putK {S : Nat → Prop} {a w : World} (h : Kp S a w) {g : Nat} (hg : g < a.heap.size → S g) (n : Nat) (d : Array MkT) : Kp S a (putRowK encM 16 (Sort.ahead w n) g 0 d) := by
  refine ⟨h.os, h.tape, h.output, ?_, fun i hi hn => ?_⟩
  · have := h.size
    simpa [putRowK, putRow, mapBlock, Sort.ahead] using this
  · have e : g ≠ i := fun e => hn (by rw [← e]; exact hg (by rw [e]; exact hi))
    have : (putRowK encM 16 (Sort.ahead w n) g 0 d).heap[i]? = w.heap[i]? := by
      simp [putRowK, putRow, mapBlock, Sort.ahead, Array.getElem?_modify, e]
    exact this.trans (h.block i hi hn)
theorem kp_growK {S : Nat → Prop} {a w : World} (h : Kp S a w) (os : Array Obj) : Kp S a (grow w os) :=
  ⟨h.os, h.tape, h.output, Nat.le_trans h.size (by simp [grow]), fun i hi hn => by
    show (w.heap ++ os)[i]? = a.heap[i]?
    rw [Array.getElem?_append_left (Nat.lt_of_lt_of_le hi h.size)]
    exact h.block i hi hn⟩
/-- The list in its order. -/
def sortD (d : Array MkT) : Array MkT := (d.toList.mergeSort fun x y => !(ltOf cfM) y x).toArray
theorem sortD_size (d : Array MkT) : (sortD d).size = d.size := by simp [sortD]
theorem sort_some (g cap : Nat) (d : Array MkT) (w : World) (hH : HoldsK encM 16 w g 0 d) (hg : g < w.heap.size) (hs : d.size < 4611686018427387904) :
    Calls Try.prog 37 #[.slice (some ⟨g, 0, none⟩) d.size cap, .func (.func 9) #[] #[]] w fun e w' => e = .returned (.tuple #[]) ∧ HoldsK encM 16 w' g 0 (sortD d) ∧ Kp (Jb g) w w' := by
  have eg : ∀ args w, (callFunc 9 args).run Try.prog w = .ok (.enter 9 args) w := enters_of Try.func9 (by kernel_rfl) rfl
  have hcmp : CmpLays Try.prog 9 #[] encM 16 cfM g 0 d.size w := fun m os dk _ x y => cmpg_any x.1 y.1 _ x.2 y.2
  have hS := AnyQ.slices_SortFunc_total Try.sortMk 16 (fun w => Try.isAgg24 w) (fun w => Try.sizeOf24 w) encM encM_len encM_one cfM swoM 9 #[] g 0 cap d w eg hcmp hH hg hs totM
  refine hS.mono ?_
  rintro e w' ⟨rfl, n, os, rfl⟩
  refine ⟨rfl, holdsK_sortWorldK_c encM 16 w g 0 d (sortD d) n os hH hg (sortD_size d), ?_⟩
  exact kp_growK (kp_putK (Kp.refl (Jb g) w) (fun _ => rfl) n _) os
theorem sort_none (cap : Nat) (w : World) :
    Calls Try.prog 37 #[.slice none 0 cap, .func (.func 9) #[] #[]] w fun e w' => e = .returned (.tuple #[]) ∧ w' = w :=
  AnyF.slices_SortFunc_none Try.sortMk none cap _ w

end Go.Proofs.Ytijlmfmpfjjlpaa
