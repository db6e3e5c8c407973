/-
  Walks of the statements of layer 1: great, first. No condition but that lists are shorter than 2^62.
-/
import Derived.Test.YtbbfibgijackhaaGreatDoorSipE
import Derived.Lib.SlBytesConst
import Derived.Test.YtbbfibgijackhaaGreatDoorMark
namespace Go.Proofs.YtbbfibgijackhaaGreatDoor
open Go.RowKit

def flen (ps : List (List Int)) (k : Nat) : Nat := (ps.take k).flatten.length
def bulk (ps : List (List Int)) : Nat := ps.length + ps.flatten.length
def GreatR (ps : List (List Int)) (n i : Value) : Prop := ∃ k : Nat, k ≤ ps.length ∧ i = .int .i64 k ∧ n = .int .i64 ((k : Int) + (flen ps k : Int)) ∧ Hid (k + flen ps k ≤ 3000)

theorem bulk_le (ps : List (List Int)) (k : Nat) (h : k ≤ ps.length) : k + flen ps k ≤ bulk ps := by
  have := flat_le ps k
  unfold bulk flen; omega
theorem bulk_all (ps : List (List Int)) : ps.length + flen ps ps.length = bulk ps := by unfold bulk flen; rw [List.take_length]
theorem flen_succ (ps : List (List Int)) (k : Nat) (h : k < ps.length) : flen ps (k + 1) = flen ps k + (ps[k]?.getD []).length := by unfold flen; rw [flat_snoc ps k h, List.length_append]



theorem IsBytes.of {zs : List Int} (h : ∀ z ∈ zs, 0 ≤ z ∧ z < 256) : IsBytes zs := by
  intro i
  by_cases hi : i < zs.length
  · rw [List.getElem?_eq_getElem hi]; exact h _ (List.getElem_mem hi)
  · rw [List.getElem?_eq_none (by omega)]; exact ⟨by decide, by decide⟩
theorem BySl.lit (w : World) (t : TypeId) (zs : List Int) (hz : ∀ z ∈ zs, 0 ≤ z ∧ z < 256) (hm : zs.length ≤ maxLen) (S : Nat → Prop) (hn : ¬ S w.heap.size) :
    BySl S (w.alloc (.cells (zs.map (Value.int .u8)).toArray t)) (.slice (some ⟨w.heap.size, 0, none⟩) zs.length zs.length) zs := by
  refine ⟨IsBytes.of hz, .inr ⟨_, _, _, rfl, Nat.le_refl _, hm, fun i hi => ?_, fun _ => hn⟩⟩
  rw [Nat.zero_add, (Blk.new w t (zs.map (Value.int .u8))).cell i, List.getElem?_map, List.getElem?_eq_getElem hi]
  rfl

theorem BySl.constant (w : World) (t : TypeId) (z : Int) (hz : 0 ≤ z ∧ z < 256) (fr : Nat × Nat) : BySl Nb (w.alloc (.cells #[.int .u8 z] t fr)) (.slice (some ⟨w.heap.size, 0, none⟩) 1 1) [z] := by
  refine ⟨IsBytes.of (by simpa using hz), .inr ⟨_, _, _, rfl, Nat.le_refl _, by decide, fun i hi => ?_, fun _ h => h⟩⟩
  have : i = 0 := by simp at hi; omega
  subst this
  have hb : (w.alloc (.cells #[.int .u8 z] t fr)).heap[w.heap.size]? = some (.cells #[.int .u8 z] t fr) := heap_alloc_new w _
  unfold World.cell?
  rw [hb]
  rfl
theorem PsSl.one {w : World} {v : Value} {zs : List Int} (h : BySl Nb w v zs) (t : TypeId) : PsSl (w.alloc (.cells #[v] t)) (.slice (some ⟨w.heap.size, 0, none⟩) 1 1) [zs] := by
  refine .inr ⟨_, _, _, rfl, Nat.le_refl _, by decide, fun i hi => ⟨v, ?_, ?_⟩⟩
  · have : i = 0 := by simp at hi; omega
    subst this
    exact World.cell?_alloc_new w #[v] t 0
  · have : i = 0 := by simp at hi; omega
    subst this
    exact h.kept ((Kp.refl Nb w).alloc _) (fun _ h => h)

theorem first_hash : hash 506097522914230528 1084818905618843912 [] = 8246050544436514353 := by kernel_rfl
def firstSp : Sp := ((Sp.init 506097522914230528 1084818905618843912).write [0, 1, 2, 3, 4, 5, 6]).write [7, 8, 9, 10, 11, 12, 13, 14]
theorem first_sum : firstSp.sum = 11613035633349379557 := by kernel_rfl
theorem first_len : firstSp.n = 15 := by kernel_rfl
theorem first_seedA : seedA 3 = 3 := by kernel_rfl
theorem first_seedB : seedB 3 = 18446744073709551612 := by kernel_rfl
theorem first_mark : markVal (markA [97]) (markB [97]) = .agg #[.int .u8 42, .int .u8 146, .int .u8 3, .int .u8 220, .int .u8 188, .int .u8 64, .int .u8 41, .int .u8 35, .int .u8 190, .int .u8 6, .int .u8 240, .int .u8 177, .int .u8 186, .int .u8 46, .int .u8 185, .int .u8 191] := by
  have h : markList (markA [97]) (markB [97]) 8 = [42, 146, 3, 220, 188, 64, 41, 35, 190, 6, 240, 177, 186, 46, 185, 191] := by kernel_rfl
  unfold markVal markCells
  rw [h]; rfl



end Go.Proofs.YtbbfibgijackhaaGreatDoor
