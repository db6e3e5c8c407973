/-
  Layers 9 and 10: walks of the reference's Fold (marks laid one over another) and Add. Conditions: cells and marks are what their kinds hold. (Printed by gen_tells10.py.)
-/
import Derived.Test.YtpgiinogfmhfiaaCelK
import Derived.Test.YtpgiinogfmhfiaaGhostL
namespace Go.Proofs.Ytpgiinogfmhfiaa
open Go.RowKit

def foldAt (ms : List (List Int)) (i : Nat) : Int := ms.foldl (fun x m => bits .xor .u8 x (m[i]?.getD 0)) 0
def foldM (ms : List (List Int)) : List Int := (List.range 16).map (foldAt ms)
def fcell (ms : List (List Int)) (i k : Nat) : List Int := (List.range 16).map fun j => if j < i then foldAt ms j else if j = i then foldAt (ms.take k) i else 0
theorem fcell_length (ms : List (List Int)) (i k : Nat) : (fcell ms i k).length = 16 := by simp [fcell]
theorem fcell_get (ms : List (List Int)) (i k j : Nat) (hj : j < 16) : (fcell ms i k)[j]?.getD 0 = if j < i then foldAt ms j else if j = i then foldAt (ms.take k) i else 0 := by
  unfold fcell; rw [List.getElem?_map, List.getElem?_range hj]; rfl
theorem fcell_zero (ms : List (List Int)) : fcell ms 0 0 = List.replicate 16 0 := by
  apply List.ext_getElem (by simp [fcell])
  intro j h1 h2
  have hj : j < 16 := by simpa [fcell] using h1
  have e := fcell_get ms 0 0 j hj
  rw [List.getElem?_eq_getElem h1] at e
  rw [List.getElem_replicate]
  refine Eq.trans e ?_
  rw [if_neg (by omega)]
  split <;> rfl
theorem fcell_next (ms : List (List Int)) (i : Nat) : fcell ms i ms.length = fcell ms (i + 1) 0 := by
  unfold fcell
  apply List.map_congr_left
  intro j _
  rw [List.take_length]
  by_cases h : j < i
  · rw [if_pos h, if_pos (by omega)]
  · by_cases e : j = i
    · subst e; rw [if_neg h, if_pos rfl, if_pos (by omega)]
    · rw [if_neg h, if_neg e, if_neg (by omega)]
      split
      · rfl
      · rfl
theorem fcell_end (ms : List (List Int)) (k : Nat) : fcell ms 16 k = foldM ms := by
  unfold fcell foldM
  apply List.map_congr_left
  intro j hj
  rw [if_pos (List.mem_range.1 hj)]
theorem foldAt_snoc (ms : List (List Int)) (i k : Nat) (hk : k < ms.length) : foldAt (ms.take (k + 1)) i = bits .xor .u8 (foldAt (ms.take k) i) ((markAt ms k)[i]?.getD 0) := by
  unfold foldAt markAt
  rw [List.take_succ_eq_append_getElem hk, List.foldl_append, List.getElem?_eq_getElem hk]
  rfl
theorem fcell_set (ms : List (List Int)) (i k : Nat) (hi : i < 16) (hk : k < ms.length) : (markL (fcell ms i k)).set i (.int .u8 (bits .xor .u8 ((fcell ms i k)[i]?.getD 0) ((markAt ms k)[i]?.getD 0))) = markL (fcell ms i (k + 1)) := by
  rw [fcell_get ms i k i hi, if_neg (Nat.lt_irrefl i), if_pos rfl, ← foldAt_snoc ms i k hk]
  unfold markL fcell
  apply List.ext_getElem?
  intro j
  by_cases hij : i = j
  · subst hij
    rw [List.getElem?_set_self (by simp; omega)]
    simp [hi]
  · rw [List.getElem?_set_ne hij]
    simp only [List.map_map, List.getElem?_map]
    rcases Nat.lt_or_ge j 16 with h | h
    · rw [List.getElem?_range h]
      simp only [Option.map_some, Function.comp]
      by_cases h1 : j < i
      · rw [if_pos h1, if_pos h1]
      · rw [if_neg h1, if_neg h1, if_neg (by omega), if_neg (by omega)]
    · rw [List.getElem?_eq_none (by simpa using h)]
      rfl
theorem fold_two {a b : List Int} (ha : MarkOk a) : foldM [a, b] = layL a b := by
  refine mark_ext (by simp [foldM]) (layL_length _ _) fun i h => ?_
  rw [layL_get _ _ i h]
  unfold foldM
  rw [List.getElem?_map, List.getElem?_range h]
  show bits .xor .u8 (bits .xor .u8 0 (a[i]?.getD 0)) (b[i]?.getD 0) = _
  rw [x8_comm 0 _ (by decide) (by decide) (ha.at i).1 (ha.at i).2, x8_zero _ (ha.at i).1 (ha.at i).2]
theorem store_u8 {w : World} {B i : Nat} {vs : List Value} {t : Nat} (h : Blk w B t vs) (hi : i < vs.length) (x : Int) : (Instr.storeAt 5 (.pointer (some ⟨B, i, none⟩)) (.int .u8 x)).run Try.prog w = .ok () (w.setCell ⟨B, i, none⟩ (.int .u8 x)) := by
  have hc := h.cell i
  rw [List.getElem?_eq_getElem hi] at hc
  have hf := h.frozen i
  go_simp

def FoldR (w : World) (ms : List (List Int)) (v : Value) (wr : World) : Prop := ∃ i : Nat, i ≤ 16 ∧ v = .int .i64 i ∧ Hid (Blk wr (w.heap.size + 1) 24 (markL (fcell ms i 0))) ∧ Hid (Blk wr w.heap.size 24 (markL (List.replicate 16 0))) ∧ Hid (Kp Nb w wr)
def FoldI (w : World) (ms : List (List Int)) (i : Nat) (v : Value) (wr : World) : Prop := ∃ k : Nat, k ≤ ms.length ∧ v = .int .i64 k ∧ Hid (Blk wr (w.heap.size + 1) 24 (markL (fcell ms i k))) ∧ Hid (Blk wr w.heap.size 24 (markL (List.replicate 16 0))) ∧ Hid (Kp Nb w wr)


theorem make_two (a b : List Int) (ha : a.length = 16) (hb : b.length = 16) (w : World) : (Instr.buildSlice 22 2 #[(0, markV a), (1, markV b)]).run Try.prog w = .ok (.slice (some ⟨w.heap.size, 0, none⟩) 2 2) (w.alloc (.cells (markL a ++ markL b).toArray 24 (0, 0))) := by
  obtain ⟨a0, a1, a2, a3, a4, a5, a6, a7, a8, a9, a10, a11, a12, a13, a14, a15, rfl⟩ := sixteen a ha
  obtain ⟨b0, b1, b2, b3, b4, b5, b6, b7, b8, b9, b10, b11, b12, b13, b14, b15, rfl⟩ := sixteen b hb
  kernel_rfl
theorem mkSl_two {W : World} {B : Nat} {a b : List Int} (ha : MarkOk a) (hb : MarkOk b) (h : Blk W B 24 (markL a ++ markL b)) : MkSl W (.slice (some ⟨B, 0, none⟩) 2 2) [a, b] := by
  refine ⟨fun i => ?_, .inr ⟨B, 0, 2, rfl, Nat.le_refl 2, by decide, fun i hi => ?_⟩⟩
  · rcases i with _ | _ | i
    · exact ha
    · exact hb
    · exact zero_ok
  · have la : (markL a).length = 16 := by rw [markL_length, ha.len]
    have hi' : i < 2 := hi
    rcases i with _ | _ | i
    · exact h.range _ _ (fun j hj => by
        rw [Nat.zero_mul, Nat.zero_add]; exact List.getElem?_append_left hj)
    · exact h.range _ _ (fun j hj => by
        rw [List.getElem?_append_right (by omega), show 0 + (0 + 1) * 16 + j - (markL a).length = j from by omega]; rfl)
    · omega
def signC (s : Int) (x y : Cel) : Cel := (IntKind.i64.wrap (x.1 + IntKind.i64.wrap (s * y.1)), layL x.2.1 y.2.1, bits .xor .u64 x.2.2 y.2.2)
theorem signC_one (x y : Cel) : signC 1 x y = addC x y := by
  unfold signC addC
  rw [show IntKind.i64.wrap (x.1 + IntKind.i64.wrap (1 * y.1)) = IntKind.i64.wrap (x.1 + y.1) from by simp only [IntKind.wrap_i64]; omega]
theorem signC_neg (x y : Cel) : signC (-1) x y = subC x y := by
  unfold signC subC
  rw [show IntKind.i64.wrap (x.1 + IntKind.i64.wrap (-1 * y.1)) = IntKind.i64.wrap (x.1 - y.1) from by simp only [IntKind.wrap_i64]; omega]
theorem signC_ok {s : Int} {x y : Cel} : CelOk (signC s x y) := ⟨(wrap64_range _).1, (wrap64_range _).2, layL_ok _ _, (x64_rng _ _).1, (x64_rng _ _).2⟩

/-- The region of Add: the made slice is the ghost. -/
structure RaddS (W : World) (a b : List Int) (bs : List Bool) (g : Nat) (w : World) : Prop where
  kp : Kp Nb W w
  sl : bs[0]?.getD false = true → MkSl w (.slice (some ⟨g, 0, none⟩) 2 2) [a, b]
theorem RaddS.keptN {W : World} {a b : List Int} {bs : List Bool} {g : Nat} {w w' : World} (h : RaddS W a b bs g w) (k : Kp Nb w w') : RaddS W a b bs g w' := ⟨h.kp.trans k (fun _ _ h => h), fun e => (h.sl e).kept k⟩


end Go.Proofs.Ytpgiinogfmhfiaa
