/-
  Marks, arrays of sixteen bytes, held against each other. No condition.
-/
import Derived.Test.YtbbfibgijackhaaGreatDoorKp
import Derived.Test.YtbbfibgijackhaaGreatDoorChecked
import Derived.ChangeKeysEq
import Derived.WalkSpells
namespace Go.Proofs.YtbbfibgijackhaaGreatDoor
open Go.RowKit

theorem plain_u8 : Tryz.prog.plainKey 5 = true := by kernel_rfl
theorem cells_u8 : Tryz.prog.cellsOf 5 = 1 := by kernel_rfl
theorem under_u8 : Tryz.prog.underlying 5 = some (.int .u8) := by kernel_rfl
theorem info_u8 : ∃ i, Tryz.prog.info? 5 = some i := by
  have h : (Tryz.prog.info? 5).isSome = true := by kernel_rfl
  exact Option.isSome_iff_exists.1 h

def bytesVal (zs : List Int) : Value := .agg (zs.map (Value.int .u8)).toArray

theorem eqItems_bytes (d : Nat) (zs ys : List Int) (n : Nat) (hz : zs.length = n) (hy : ys.length = n) (w : World) : ∀ is : List Nat, (∀ i ∈ is, i < n) →
    (Op.eqItems (d + 1) 5 1 (zs.map (Value.int .u8)).toArray (ys.map (Value.int .u8)).toArray is).run Tryz.prog w = .ok (is.all fun i => zs[i]?.getD 0 == ys[i]?.getD 0) w
  | [], _ => by simp [Op.eqItems]
  | i :: is, h => by
    have hi : i < n := h i (by simp)
    have h1 : (zs.map (Value.int .u8)).toArray[i * 1]? = some (.int .u8 (zs[i]?.getD 0)) := by
      rw [Nat.mul_one]; simp [List.getElem?_eq_getElem (show i < zs.length by omega)]
    have h2 : (ys.map (Value.int .u8)).toArray[i * 1]? = some (.int .u8 (ys[i]?.getD 0)) := by
      rw [Nat.mul_one]; simp [List.getElem?_eq_getElem (show i < ys.length by omega)]
    have p1 := run_part_plain w plain_u8 h1
    have p2 := run_part_plain w plain_u8 h2
    have p3 := run_equalIn_int w d 5 .u8 .u8 (zs[i]?.getD 0) (ys[i]?.getD 0) under_u8
    have ih := eqItems_bytes d zs ys n hz hy w is (fun j hj => h j (by simp [hj]))
    simp only [Op.eqItems, Sem.run_bind, p1, p2, p3, Result.andThen_ok, List.all_cons]
    cases hb : (zs[i]?.getD 0 == ys[i]?.getD 0)
    · simp
    · simpa using ih

theorem all_range (zs ys : List Int) (n : Nat) (hz : zs.length = n) (hy : ys.length = n) : ((List.range n).all fun i => zs[i]?.getD 0 == ys[i]?.getD 0) = decide (zs = ys) := by
  by_cases e : zs = ys
  · subst e; simp
  · have : ¬ ((List.range n).all fun i => zs[i]?.getD 0 == ys[i]?.getD 0) = true := by
      intro h
      rw [List.all_eq_true] at h
      refine e (List.ext_getElem (by omega) fun i h1 h2 => ?_)
      have := h i (List.mem_range.2 (by omega))
      simpa [List.getElem?_eq_getElem h1, List.getElem?_eq_getElem h2] using this
    simp only [e, decide_false]
    simpa using this


end Go.Proofs.YtbbfibgijackhaaGreatDoor
