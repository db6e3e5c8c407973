/-
  Layer 10: cells as lists; walks of Of, Add and Sub. Conditions: a mark has sixteen bytes.
-/
import Derived.Test.YtpgiinogfmhfiaaCelB
import Derived.Test.YtpgiinogfmhfiaaVals
namespace Go.Proofs.Ytpgiinogfmhfiaa
open Go.RowKit

def cellL (c : Int) (m : List Int) (k : Int) : List Value := .int .i64 c :: (markL m ++ [.int .u64 k])
abbrev cellV (c : Int) (m : List Int) (k : Int) : Value := .agg (cellL c m k).toArray
theorem cellL_length (c : Int) (m : List Int) (k : Int) (h : m.length = 16) : (cellL c m k).length = 18 := by unfold cellL; simp [markL_length, h]
theorem cellL_one (c : Int) (m : List Int) (k : Int) : ∀ v ∈ cellL c m k, v.oneCell' = true := fun v hv => by
  unfold cellL at hv
  rcases List.mem_cons.1 hv with rfl | hv
  · rfl
  · rcases List.mem_append.1 hv with hv | hv
    · exact markL_one m v hv
    · obtain rfl : v = .int .u64 k := by simpa using hv
      rfl
theorem sixteen (m : List Int) (h : m.length = 16) : ∃ m0 m1 m2 m3 m4 m5 m6 m7 m8 m9 m10 m11 m12 m13 m14 m15, m = [m0, m1, m2, m3, m4, m5, m6, m7, m8, m9, m10, m11, m12, m13, m14, m15] := by
  match m, h with
  | [m0, m1, m2, m3, m4, m5, m6, m7, m8, m9, m10, m11, m12, m13, m14, m15], _ => exact ⟨m0, m1, m2, m3, m4, m5, m6, m7, m8, m9, m10, m11, m12, m13, m14, m15, rfl⟩
theorem cell_c {w : World} {B t : Nat} {c : Int} {m : List Int} {k : Int} (h : Blk w B t (cellL c m k)) : w.cell? ⟨B, 0, none⟩ = some (.int .i64 c) := h.cell 0
theorem cell_k {w : World} {B t : Nat} {c : Int} {m : List Int} {k : Int} (hm : m.length = 16) (h : Blk w B t (cellL c m k)) : w.cell? ⟨B, 17, none⟩ = some (.int .u64 k) := by
  rw [h.cell 17]
  unfold cellL
  rw [List.getElem?_cons_succ, List.getElem?_append_right (by rw [markL_length, hm]; exact Nat.le_refl _), markL_length, hm]
  rfl
theorem cell_m {w : World} {B t : Nat} {c : Int} {m : List Int} {k : Int} (h : Blk w B t (cellL c m k)) : w.rangeAt B 1 (markL m) := h.range 1 (markL m) (fun j hj => by
  rw [Nat.add_comm]
  unfold cellL
  rw [List.getElem?_cons_succ, List.getElem?_append_left hj])
-- GENERATED from here on by gen_cel.py
theorem mark_whole {w : World} {B t : Nat} {m : List Int} (hm : Hid (m.length = 16)) (h : Blk w B t (markL m)) : (Instr.loadAt 24 (.pointer (some ⟨B, 0, none⟩))).run Try.prog w = .ok (markV m) w :=
  run_loadAt_mid w B 0 24 (markL m) _ (range_of h) under_mark rfl (mark_infoL m hm.out)


end Go.Proofs.Ytpgiinogfmhfiaa
