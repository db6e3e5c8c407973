/-
  Layer 10: marks and cells as lists; walks of lay, Check, Of, and of the reference's. Conditions: a mark has sixteen bytes.
-/
import Derived.Test.YteedceepoindeaaRow
import Derived.Test.YteedceepoindeaaMark
import Derived.Test.YteedceepoindeaaRefH
import Derived.Test.YteedceepoindeaaRefB
import Derived.Test.YteedceepoindeaaPartsKit
import Derived.Deep.RegionHeld3
namespace Go.Proofs.Yteedceepoindeaa
open Go.RowKit

def markL (m : List Int) : List Value := m.map (Value.int .u8)
theorem markL_length (m : List Int) : (markL m).length = m.length := by unfold markL; rw [List.length_map]
theorem markL_one (m : List Int) : ∀ v ∈ markL m, v.oneCell' = true := fun v hv => by
  obtain ⟨x, _, rfl⟩ := List.mem_map.1 hv
  rfl
theorem markL_get (m : List Int) (i : Nat) (h : i < m.length) : (markL m)[i]? = some (.int .u8 (m[i]?.getD 0)) := by
  unfold markL
  rw [List.getElem?_map, List.getElem?_eq_getElem h]
  rfl
theorem mark_info : (Try.prog.info? 23).map (·.size) = some 16 := by kernel_rfl
theorem mark_infoL (m : List Int) (h : m.length = 16) : (Try.prog.info? 23).map (·.size) = some (markL m).length := by rw [markL_length, h]; exact mark_info
theorem idx_mark (m : List Int) (hm : m.length = 16) (k : Nat) (hk : k < 16) (w : World) : (Instr.index 23 (bytesVal m) (.int .i64 (k : Int))).run Try.prog w = .ok (.int .u8 (m[k]?.getD 0)) w := by
  have h1 : (m.map (Value.int .u8)).toArray[k * 1]? = some (.int .u8 (m[k]?.getD 0)) := by
    rw [Nat.mul_one]; simp [List.getElem?_eq_getElem (show k < m.length by omega)]
  have hp := run_part_plain w plain_u8 h1
  have hi : ((k : Int) : Int).toNat = k := by omega
  have hs : (Try.prog.info? 5).map (·.size) = some 1 := by kernel_rfl
  obtain ⟨i, hi8⟩ := info_u8
  have hsz : i.size = 1 := by rw [hi8] at hs; simpa using hs
  have hlt : (0 : Int) ≤ (k : Int) ∧ (k : Int) < 16 := by omega
  simp [Instr.index, bytesVal, asIntOf, run_underlying under_mark, sizeOf, typeInfo, hi8, hsz, hlt, hk] at hp ⊢
  exact hp

/-- One mark laid over another one: the first k bytes. -/
def layK (a b : List Int) (k : Nat) : List Int := (List.range 16).map fun i => if i < k then bits .xor .u8 (a[i]?.getD 0) (b[i]?.getD 0) else a[i]?.getD 0
def layL (a b : List Int) : List Int := layK a b 16
theorem layK_length (a b : List Int) (k : Nat) : (layK a b k).length = 16 := by simp [layK]
theorem layK_get (a b : List Int) (k i : Nat) (h : i < 16) : (layK a b k)[i]?.getD 0 = if i < k then bits .xor .u8 (a[i]?.getD 0) (b[i]?.getD 0) else a[i]?.getD 0 := by
  unfold layK
  rw [List.getElem?_map, List.getElem?_range h]
  rfl
theorem layK_zero (a b : List Int) (ha : a.length = 16) : layK a b 0 = a := by
  apply List.ext_getElem?
  intro i
  unfold layK
  rw [List.getElem?_map]
  rcases Nat.lt_or_ge i 16 with h | h
  · rw [List.getElem?_range h, List.getElem?_eq_getElem (by omega)]
    simp [List.getElem?_eq_getElem (show i < a.length by omega)]
  · rw [List.getElem?_eq_none (by simpa using h), List.getElem?_eq_none (by omega)]
    rfl
theorem layK_succ (a b : List Int) (k : Nat) (h : k < 16) : (markL (layK a b k)).set k (.int .u8 (bits .xor .u8 (a[k]?.getD 0) (b[k]?.getD 0))) = markL (layK a b (k + 1)) := by
  unfold markL layK
  apply List.ext_getElem?
  intro i
  by_cases hik : k = i
  · subst hik
    rw [List.getElem?_set_self (by simp; omega)]
    simp [h]
  · rw [List.getElem?_set_ne hik]
    simp only [List.map_map, List.getElem?_map]
    rcases Nat.lt_or_ge i 16 with hi | hi
    · rw [List.getElem?_range hi]
      simp only [Option.map_some, Function.comp]
      by_cases h1 : i < k
      · rw [if_pos h1, if_pos (by omega)]
      · rw [if_neg h1, if_neg (by omega)]
    · rw [List.getElem?_eq_none (by simpa using hi)]
      rfl
abbrev markV (m : List Int) : Value := .agg (markL m).toArray
theorem range_of {w : World} {B : Nat} {t : TypeId} {vs : List Value} (h : Blk w B t vs) : w.rangeAt B 0 vs := h.range 0 vs (fun j _ => by rw [Nat.zero_add])

def LayR (w : World) (a b : List Int) (i : Value) (wr : World) : Prop :=
  ∃ k : Nat, k ≤ 16 ∧ i = .int .i64 k ∧ Hid (Blk wr w.heap.size 23 (markL (layK a b k))) ∧ Hid (Blk wr (w.heap.size + 1 + 1) 23 (markL (List.replicate 16 0))) ∧ Hid (Kp Nb w wr)
set_option maxRecDepth 100000 in
set_option maxHeartbeats 1000000 in
theorem lay_any (a b : List Int) (w : World) (ha : a.length = 16) (hb : b.length = 16) :
    Calls Try.prog 64 #[markV a, markV b] w fun e w' => e = .returned (markV (layL a b)) ∧ Kp Nb w w' := by
  have HA := hid ha
  have HB := hid hb
  clear ha hb
  go_enter Try.func64, Try.ntmps64
  have K0 := hid ((((Kp.refl Nb w).alloc (.cells (markL a).toArray 23)).alloc (.cells (markL b).toArray 23)).alloc (.cells (markL (List.replicate 16 0)).toArray 23))
  have H0 := hid (((Blk.new w 23 (markL a)).alloc (.cells (markL b).toArray 23)).alloc (.cells (markL (List.replicate 16 0)).toArray 23))
  have h1 := (Blk.new (w.alloc (.cells (markL a).toArray 23)) 23 (markL b)).alloc (.cells (markL (List.replicate 16 0)).toArray 23)
  have h2 := Blk.new ((w.alloc (.cells (markL a).toArray 23)).alloc (.cells (markL b).toArray 23)) 23 (markL (List.replicate 16 0))
  simp only [World.size_alloc] at h1 h2
  have H1 := hid h1
  have H2 := hid h2
  clear h1 h2
  go_wp2_with (refine wpList_load_mid (by rfl) 23 (.tmp 3) (by rfl) (w.heap.size + 1) 0 (by rfl) (markL b) _ (range_of H1.out) under_mark rfl (mark_infoL b HB.out) ?_)
  have HZ : Hid (Blk (((w.alloc (.cells (markL a).toArray 23)).alloc (.cells (markL b).toArray 23)).alloc (.cells (markL (List.replicate 16 0)).toArray 23)) w.heap.size 23 (markL (layK a b 0))) := hid (by rw [layK_zero a b HA.out]; exact H0.out)
  go_loopw [8] (fun i wr => LayR w a b i wr) (fun i _ => 16 - (intOf i).toNat)
  case atStart => exact ⟨0, by omega, rfl, HZ, H2, K0⟩
  case round =>
    clear HZ H0 H1 H2 K0
    obtain ⟨k, hk, rfl, HX, HR, HK⟩ := hrel
    by_cases hlt : k < 16
    · obtain ⟨x, hx⟩ : ∃ x, (layK a b k)[k]?.getD 0 = x := ⟨_, rfl⟩
      obtain ⟨y, hy⟩ : ∃ y, b[k]?.getD 0 = y := ⟨_, rfl⟩
      have c0 := (HX.out.cell k).trans (markL_get _ k (by rw [layK_length]; exact hlt))
      rw [hx] at c0
      have f0 := HX.out.frozen k
      have hi : ∀ w, (Instr.index 23 (.agg (markL b).toArray) (.int .i64 (k : Int))).run Try.prog w = .ok (.int .u8 y) w := fun w => by rw [← hy]; exact idx_mark b HB.out k hlt w
      have HXN : Hid (Blk (wr.setCell ⟨w.heap.size, k, none⟩ (.int .u8 (bits .xor .u8 x y))) w.heap.size 23 (markL (layK a b (k + 1)))) := hid (by
        have h := HX.out.set k (.int .u8 (bits .xor .u8 x y))
        rw [← hx, layK_get a b k k hlt, if_neg (Nat.lt_irrefl k), ← hy, layK_succ a b k hlt] at h
        rw [← hx, layK_get a b k k hlt, if_neg (Nat.lt_irrefl k), ← hy]
        exact h)
      have HRN := hid (HR.out.other ⟨w.heap.size, k, none⟩ (by dsimp only; omega) (.int .u8 (bits .xor .u8 x y)))
      have HKN := hid (HK.out.new (B := w.heap.size) (Nat.le_refl _) k (.int .u8 (bits .xor .u8 x y)))
      clear hx hy
      go_wp2
      go_roundw
      case rel => exact ⟨k + 1, by omega, by go_num, HXN, HRN, HKN⟩
      case measure => simp [intOf]; omega
    · obtain rfl : k = 16 := by omega
      have HT : Hid (wr.there (w.heap.size + 1 + 1) 0 (markL (layK a b 16)).toArray.size) := hid (by simpa [markL_length, layK_length] using HR.out.there 0 16 (by simp [markL_length]))
      have HI : Hid ((Try.prog.info? 23).map (·.size) = some (markL (layK a b 16)).toArray.size) := hid (by simpa using mark_infoL _ (layK_length a b 16))
      have HO := hid (all_oneCell_toArray (markL_one (layK a b 16)))
      have HF : Hid (Blk (wr.setCells (w.heap.size + 1 + 1) 0 (markL (layK a b 16)).toArray.toList) (w.heap.size + 1 + 1) 23 (markL (layK a b 16))) := hid (row_set HR.out (by simp [markL_length, layK_length]))
      have HKF : Hid (Kp Nb w (wr.setCells (w.heap.size + 1 + 1) 0 (markL (layK a b 16)).toArray.toList)) := hid (Kp.setCells (fun h => by omega) _ 0 wr HK.out)
      go_wp2_with (first
        | (refine wpList_load_mid (by rfl) 23 (.tmp 2) (by rfl) w.heap.size 0 (by rfl) (markL (layK a b 16)) _ (range_of HX.out) under_mark rfl (mark_infoL _ (layK_length a b 16)) ?_)
        | (refine wpList_store_mid (by rfl) 23 (.tmp 4) (.tmp 19) (by rfl) (w.heap.size + 1 + 1) 0 (markL (layK a b 16)).toArray (by rfl) (by rfl) HT.out HI.out HO.out ?_))
      refine bodyPost_ret (v := markV (layL a b)) (results_cell rfl _ (w.heap.size + 1 + 1) (by rfl) _ (row_loadVar under_mark rfl (mark_infoL _ (layK_length a b 16)) HF.out 0 (fun j _ => by rw [Nat.zero_add]))) rfl ⟨rfl, HKF.out⟩

end Go.Proofs.Yteedceepoindeaa
