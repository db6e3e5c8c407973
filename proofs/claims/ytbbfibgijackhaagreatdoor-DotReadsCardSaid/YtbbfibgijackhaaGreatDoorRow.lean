/-
  Whole rows and structs loaded and stored, out of blocks that are known whole. Nothing of the program is named here. Condition: the row lies in the block.
-/
import Derived.Test.YtbbfibgijackhaaGreatDoorKp
import Derived.Deep.MidRow
namespace Go.Proofs.YtbbfibgijackhaaGreatDoor
open Go.RowKit

theorem Blk.range {w : World} {B : Nat} {t : TypeId} {vs : List Value} (h : Blk w B t vs) (o : Nat) (cs : List Value) (hcs : ∀ j, j < cs.length → vs[o + j]? = cs[j]?) : w.rangeAt B o cs := fun j v hv => by
  rw [h.cell (o + j), hcs j (List.getElem?_eq_some_iff.1 hv).1]
  exact hv
theorem Blk.there {w : World} {B : Nat} {t : TypeId} {vs : List Value} (h : Blk w B t vs) (o n : Nat) (hn : o + n ≤ vs.length) : w.there B o n := fun j hj => by
  refine ⟨?_, h.frozen _⟩
  rw [h.cell (o + j), List.getElem?_eq_getElem (by omega)]
  rfl
theorem take_set_succ (vs : List Value) (o : Nat) (v : Value) (h : o < vs.length) : (vs.set o v).take (o + 1) = vs.take o ++ [v] := by
  rw [List.take_succ_eq_append_getElem (by rw [List.length_set]; exact h), List.take_set_of_le (Nat.le_refl _), List.getElem_set_self]
theorem Blk.setCells {B : Nat} {t : TypeId} : ∀ (cs : List Value) (o : Nat) (w : World) (vs : List Value), Blk w B t vs → o + cs.length ≤ vs.length → Blk (w.setCells B o cs) B t (vs.take o ++ cs ++ vs.drop (o + cs.length))
  | [], o, _, vs, h, _ => by simpa [World.setCells] using h
  | v :: r, o, w, vs, h, hl => by
    rw [List.length_cons] at hl
    have h1 := Blk.setCells r (o + 1) _ _ (h.set o v) (by rw [List.length_set]; omega)
    rw [take_set_succ vs o v (by omega)] at h1
    have e : (vs.set o v).drop (o + 1 + r.length) = vs.drop (o + (r.length + 1)) := by
      rw [List.drop_set_of_lt (by omega)]
      congr 1
      omega
    rw [e] at h1
    simpa [World.setCells, List.append_assoc] using h1
theorem Kp.setCells {S : Nat → Prop} {a : World} {B : Nat} (hB : B < a.heap.size → S B) : ∀ (cs : List Value) (o : Nat) (w : World), Kp S a w → Kp S a (w.setCells B o cs)
  | [], _, _, h => h
  | v :: r, o, _, h => Kp.setCells hB r (o + 1) _ (h.setCell (p := ⟨B, o, none⟩) hB v)

section
variable {P : Program} {w : World} {B : Nat} {t T : TypeId} {vs cs : List Value} {d : TypeDesc}
theorem row_load (hu : P.underlying T = some d) (hd : d.isRow = true) (hi : (P.info? T).map (·.size) = some cs.length) (h : Blk w B t vs) (o : Nat) (hcs : ∀ j, j < cs.length → vs[o + j]? = cs[j]?) :
    (Instr.loadAt T (.pointer (some ⟨B, o, none⟩))).run P w = .ok (.agg cs.toArray) w := run_loadAt_mid w B o T cs d (h.range o cs hcs) hu hd hi
theorem row_loadVar (hu : P.underlying T = some d) (hd : d.isRow = true) (hi : (P.info? T).map (·.size) = some cs.length) (h : Blk w B t vs) (o : Nat) (hcs : ∀ j, j < cs.length → vs[o + j]? = cs[j]?) :
    (loadVar T ⟨B, o, none⟩).run P w = .ok (.agg cs.toArray) w := run_loadVar_mid w B o T cs d (h.range o cs hcs) hu hd hi
theorem row_store (hi : (P.info? T).map (·.size) = some cs.length) (h : Blk w B t vs) (hl : cs.length = vs.length) (h1 : ∀ v ∈ cs, v.oneCell' = true) :
    ∃ w', (Instr.storeAt T (.pointer (some ⟨B, 0, none⟩)) (.agg cs.toArray)).run P w = .ok () w' ∧ Blk w' B t cs ∧ Kp (Jb B) w w' := by
  refine ⟨w.setCells B 0 cs, ?_, ?_, Kp.setCells (S := Jb B) (fun _ => show B = B from rfl) cs 0 w (Kp.refl _ w)⟩
  · have h := run_storeAt_mid (P := P) w B 0 T cs.toArray (by simpa using h.there 0 cs.length (by omega)) (by simpa using hi) (all_oneCell_toArray h1)
    simpa using h
  · have h2 := Blk.setCells cs 0 w vs h (by omega)
    rw [List.take_zero, Nat.zero_add, List.drop_eq_nil_of_le (by omega)] at h2
    simpa using h2
theorem row_set (h : Blk w B t vs) (hl : cs.length = vs.length) : Blk (w.setCells B 0 cs) B t cs := by
  have h2 := Blk.setCells cs 0 w vs h (by omega)
  rw [List.take_zero, Nat.zero_add, List.drop_eq_nil_of_le (by omega)] at h2
  simpa using h2
theorem results_cell {fn : Func} {s : Tmp} {T : TypeId} (h : fn.results = #[.cell s T]) (tmps : Array Value) (B : Nat) (ht : tmps.getD s undef = .pointer (some ⟨B, 0, none⟩)) (v : Value) (hl : (loadVar T ⟨B, 0, none⟩).run P w = .ok v w) :
    (results fn tmps).run P w = .ok v w := by
  simp only [Array.getD_eq_getD_getElem?] at ht
  simp [results, h, ht, hl, asAddr]
end

end Go.Proofs.YtbbfibgijackhaaGreatDoor
