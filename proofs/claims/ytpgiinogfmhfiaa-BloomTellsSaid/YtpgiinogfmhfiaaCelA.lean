/-
  Layer 10: marks and cells as lists; walks of lay, Check, Of, and of the reference's. Conditions: a mark has sixteen bytes.
-/
import Derived.Test.YtpgiinogfmhfiaaRow
import Derived.Test.YtpgiinogfmhfiaaMark
import Derived.Test.YtpgiinogfmhfiaaRefH
import Derived.Test.YtpgiinogfmhfiaaRefB
import Derived.Test.YtpgiinogfmhfiaaPartsKit
import Derived.Deep.RegionHeld3
namespace Go.Proofs.Ytpgiinogfmhfiaa
open Go.RowKit

def markL (m : List Int) : List Value := m.map (Value.int .u8)
theorem markL_length (m : List Int) : (markL m).length = m.length := by unfold markL; rw [List.length_map]
theorem markL_one (m : List Int) : ∀ v ∈ markL m, v.oneCell' = true := fun v hv => by
  obtain ⟨x, _, rfl⟩ := List.mem_map.1 hv
  rfl
theorem markL_get (m : List Int) (i : Nat) (h : i < m.length) : (markL m)[i]? = some (.int .u8 (m[i]?.getD 0)) := by
  unfold markL
  rw [List.getElem?_map, List.getElem?_eq_getElem h]
  rfl
theorem mark_info : (Try.prog.info? 24).map (·.size) = some 16 := by kernel_rfl
theorem mark_infoL (m : List Int) (h : m.length = 16) : (Try.prog.info? 24).map (·.size) = some (markL m).length := by rw [markL_length, h]; exact mark_info
theorem idx_mark (m : List Int) (hm : m.length = 16) (k : Nat) (hk : k < 16) (w : World) : (Instr.index 24 (bytesVal m) (.int .i64 (k : Int))).run Try.prog w = .ok (.int .u8 (m[k]?.getD 0)) w := by
  have h1 : (m.map (Value.int .u8)).toArray[k * 1]? = some (.int .u8 (m[k]?.getD 0)) := by
    rw [Nat.mul_one]; simp [List.getElem?_eq_getElem (show k < m.length by omega)]
  have hp := run_part_plain w plain_u8 h1
  have hi : ((k : Int) : Int).toNat = k := by omega
  have hs : (Try.prog.info? 5).map (·.size) = some 1 := by kernel_rfl
  obtain ⟨i, hi8⟩ := info_u8
  have hsz : i.size = 1 := by rw [hi8] at hs; simpa using hs
  have hlt : (0 : Int) ≤ (k : Int) ∧ (k : Int) < 16 := by omega
  simp [Instr.index, bytesVal, asIntOf, run_underlying under_mark, sizeOf, typeInfo, hi8, hsz, hlt, hk] at hp ⊢
  exact hp

/-- One mark laid over another one: the first k bytes. -/
def layK (a b : List Int) (k : Nat) : List Int := (List.range 16).map fun i => if i < k then bits .xor .u8 (a[i]?.getD 0) (b[i]?.getD 0) else a[i]?.getD 0
def layL (a b : List Int) : List Int := layK a b 16
theorem layK_length (a b : List Int) (k : Nat) : (layK a b k).length = 16 := by simp [layK]
theorem layK_get (a b : List Int) (k i : Nat) (h : i < 16) : (layK a b k)[i]?.getD 0 = if i < k then bits .xor .u8 (a[i]?.getD 0) (b[i]?.getD 0) else a[i]?.getD 0 := by
  unfold layK
  rw [List.getElem?_map, List.getElem?_range h]
  rfl
theorem layK_zero (a b : List Int) (ha : a.length = 16) : layK a b 0 = a := by
  apply List.ext_getElem?
  intro i
  unfold layK
  rw [List.getElem?_map]
  rcases Nat.lt_or_ge i 16 with h | h
  · rw [List.getElem?_range h, List.getElem?_eq_getElem (by omega)]
    simp [List.getElem?_eq_getElem (show i < a.length by omega)]
  · rw [List.getElem?_eq_none (by simpa using h), List.getElem?_eq_none (by omega)]
    rfl
theorem layK_succ (a b : List Int) (k : Nat) (h : k < 16) : (markL (layK a b k)).set k (.int .u8 (bits .xor .u8 (a[k]?.getD 0) (b[k]?.getD 0))) = markL (layK a b (k + 1)) := by
  unfold markL layK
  apply List.ext_getElem?
  intro i
  by_cases hik : k = i
  · subst hik
    rw [List.getElem?_set_self (by simp; omega)]
    simp [h]
  · rw [List.getElem?_set_ne hik]
    simp only [List.map_map, List.getElem?_map]
    rcases Nat.lt_or_ge i 16 with hi | hi
    · rw [List.getElem?_range hi]
      simp only [Option.map_some, Function.comp]
      by_cases h1 : i < k
      · rw [if_pos h1, if_pos (by omega)]
      · rw [if_neg h1, if_neg (by omega)]
    · rw [List.getElem?_eq_none (by simpa using hi)]
      rfl
abbrev markV (m : List Int) : Value := .agg (markL m).toArray
theorem range_of {w : World} {B : Nat} {t : TypeId} {vs : List Value} (h : Blk w B t vs) : w.rangeAt B 0 vs := h.range 0 vs (fun j _ => by rw [Nat.zero_add])

def LayR (w : World) (a b : List Int) (i : Value) (wr : World) : Prop :=
  ∃ k : Nat, k ≤ 16 ∧ i = .int .i64 k ∧ Hid (Blk wr w.heap.size 24 (markL (layK a b k))) ∧ Hid (Blk wr (w.heap.size + 1 + 1) 24 (markL (List.replicate 16 0))) ∧ Hid (Kp Nb w wr)

end Go.Proofs.Ytpgiinogfmhfiaa
