/-
  Of earlier texts what is used here: Mark, U64, SipPlain, SipA, RefA, RefP .. No condition.
-/
import Derived.Test.YtijlmfmpfjjlpaaMkit
import Derived.Test.YtijlmfmpfjjlpaaProg
import Derived.BigQuiet
import Derived.ChangeAlike
import Derived.ChangeKeysEq
import Derived.Deep.DeepCutAuto
import Derived.Deep.QuietTactic
import Derived.Deep.RegionHeld3
import Derived.IntWalk
import Derived.Laws.BitsAllLaws
import Derived.Laws.IdiomStrings
import Derived.Lib.SlBytesConst
import Derived.RegionTactic
import Derived.StillTailTactics
import Derived.WalkKit
import Derived.WalkLawsBesides
import Derived.WalkSpells
namespace Go.Proofs.Ytijlmfmpfjjlpaa
section
open Go.RowKit
theorem idx_mark (m : List Int) (hm : m.length = 16) (k : Nat) (hk : k < 16) (w : World) : (Instr.index 24 (bytesVal m) (.int .i64 (k : Int))).run Try.prog w = .ok (.int .u8 (m[k]?.getD 0)) w := by
  have h1 : (m.map (Value.int .u8)).toArray[k * 1]? = some (.int .u8 (m[k]?.getD 0)) := by
    rw [Nat.mul_one]; simp [List.getElem?_eq_getElem (show k < m.length by omega)]
  have hp := run_part_plain w plain_u8 h1
  have hi : ((k : Int) : Int).toNat = k := by omega
  have hs : (Try.prog.info? 5).map (·.size) = some 1 := by kernel_rfl
  obtain ⟨i, hi8⟩ := info_u8
  have hsz : i.size = 1 := by rw [hi8] at hs; simpa using hs
  have hlt : (0 : Int) ≤ (k : Int) ∧ (k : Int) < 16 := by omega
  simp [Instr.index, bytesVal, asIntOf, run_underlying under_mark, sizeOf, typeInfo, hi8, hsz, hlt, hk] at hp ⊢
  exact hp
/-- One mark laid over another one: the first k bytes. -/
def layK (a b : List Int) (k : Nat) : List Int := (List.range 16).map fun i => if i < k then bits .xor .u8 (a[i]?.getD 0) (b[i]?.getD 0) else a[i]?.getD 0
def layL (a b : List Int) : List Int := layK a b 16
theorem layK_length (a b : List Int) (k : Nat) : (layK a b k).length = 16 := by simp [layK]
theorem layK_get (a b : List Int) (k i : Nat) (h : i < 16) : (layK a b k)[i]?.getD 0 = if i < k then bits .xor .u8 (a[i]?.getD 0) (b[i]?.getD 0) else a[i]?.getD 0 := by
  unfold layK
  rw [List.getElem?_map, List.getElem?_range h]
  rfl
theorem layK_zero (a b : List Int) (ha : a.length = 16) : layK a b 0 = a := by
  apply List.ext_getElem?
  intro i
  unfold layK
  rw [List.getElem?_map]
  rcases Nat.lt_or_ge i 16 with h | h
  · rw [List.getElem?_range h, List.getElem?_eq_getElem (by omega)]
    simp [List.getElem?_eq_getElem (show i < a.length by omega)]
  · rw [List.getElem?_eq_none (by simpa using h), List.getElem?_eq_none (by omega)]
    rfl
theorem layK_succ (a b : List Int) (k : Nat) (h : k < 16) : (markL (layK a b k)).set k (.int .u8 (bits .xor .u8 (a[k]?.getD 0) (b[k]?.getD 0))) = markL (layK a b (k + 1)) := by
  unfold markL layK
  apply List.ext_getElem?
  intro i
  by_cases hik : k = i
  · subst hik
    rw [List.getElem?_set_self (by simp; omega)]
    simp [h]
  · rw [List.getElem?_set_ne hik]
    simp only [List.map_map, List.getElem?_map]
    rcases Nat.lt_or_ge i 16 with hi | hi
    · rw [List.getElem?_range hi]
      simp only [Option.map_some, Function.comp]
      by_cases h1 : i < k
      · rw [if_pos h1, if_pos (by omega)]
      · rw [if_neg h1, if_neg (by omega)]
    · rw [List.getElem?_eq_none (by simpa using hi)]
      rfl
end
section
open Go.RowKit
/-- A list of cells, as (count, mark, check). -/
abbrev Cel := Int × List Int × Int
end
section
open Go.RowKit
def c0 : Cel := (0, List.replicate 16 0, 0)
theorem x8_comm (a b : Int) (a0 : 0 ≤ a) (a1 : a < 256) (b0 : 0 ≤ b) (b1 : b < 256) : bits .xor .u8 a b = bits .xor .u8 b a := by
  rw [u8_xor a b a0 a1 b0 b1, u8_xor b a b0 b1 a0 a1, Nat.xor_comm]
theorem x8_rng (a b : Int) : 0 ≤ bits .xor .u8 a b ∧ bits .xor .u8 a b < 256 := ⟨bits_lo_u8 .xor a b, by have := bits_hi_u8 .xor a b; omega⟩
theorem x8_assoc (a b c : Int) (a0 : 0 ≤ a) (a1 : a < 256) (b0 : 0 ≤ b) (b1 : b < 256) (c0 : 0 ≤ c) (c1 : c < 256) : bits .xor .u8 (bits .xor .u8 a b) c = bits .xor .u8 a (bits .xor .u8 b c) := by
  have r1 := x8_rng a b
  have r2 := x8_rng b c
  rw [u8_xor _ c r1.1 r1.2 c0 c1, u8_xor a _ a0 a1 r2.1 r2.2, u8_xor a b a0 a1 b0 b1, u8_xor b c b0 b1 c0 c1, Int.toNat_natCast, Int.toNat_natCast, Nat.xor_assoc]
theorem x8_self (a : Int) (a0 : 0 ≤ a) (a1 : a < 256) : bits .xor .u8 a a = 0 := by
  rw [u8_xor a a a0 a1 a0 a1, Nat.xor_self]; rfl
theorem x8_zero (a : Int) (a0 : 0 ≤ a) (a1 : a < 256) : bits .xor .u8 a 0 = a := by
  rw [u8_xor a 0 a0 a1 (by omega) (by omega), show (0 : Int).toNat = 0 from rfl, Nat.xor_zero]; omega
theorem layL_length (a b : List Int) : (layL a b).length = 16 := layK_length a b 16
theorem layL_get (a b : List Int) (i : Nat) (h : i < 16) : (layL a b)[i]?.getD 0 = bits .xor .u8 (a[i]?.getD 0) (b[i]?.getD 0) := by
  unfold layL; rw [layK_get a b 16 i h, if_pos h]
theorem MarkOk.at {m : List Int} (h : MarkOk m) (i : Nat) : 0 ≤ m[i]?.getD 0 ∧ m[i]?.getD 0 < 256 := h.bytes i
theorem mark_ext {a b : List Int} (ha : a.length = 16) (hb : b.length = 16) (h : ∀ i, i < 16 → a[i]?.getD 0 = b[i]?.getD 0) : a = b := by
  apply List.ext_getElem (by omega)
  intro i h1 h2
  have := h i (by omega)
  rw [List.getElem?_eq_getElem h1, List.getElem?_eq_getElem h2] at this
  exact this
theorem layL_ok (a b : List Int) : MarkOk (layL a b) := by
  refine ⟨layL_length a b, fun i => ?_⟩
  rcases Nat.lt_or_ge i 16 with h | h
  · rw [layL_get a b i h]; exact x8_rng _ _
  · rw [List.getElem?_eq_none (by rw [layL_length]; exact h)]; exact ⟨by decide, by decide⟩
theorem lay_comm {a b : List Int} (ha : MarkOk a) (hb : MarkOk b) : layL a b = layL b a :=
  mark_ext (layL_length _ _) (layL_length _ _) fun i h => by rw [layL_get _ _ i h, layL_get _ _ i h]; exact x8_comm _ _ (ha.at i).1 (ha.at i).2 (hb.at i).1 (hb.at i).2
theorem lay_assoc {a b c : List Int} (ha : MarkOk a) (hb : MarkOk b) (hc : MarkOk c) : layL (layL a b) c = layL a (layL b c) :=
  mark_ext (layL_length _ _) (layL_length _ _) fun i h => by
    rw [layL_get _ _ i h, layL_get _ _ i h, layL_get _ _ i h, layL_get _ _ i h]; exact x8_assoc _ _ _ (ha.at i).1 (ha.at i).2 (hb.at i).1 (hb.at i).2 (hc.at i).1 (hc.at i).2
theorem zero_at (i : Nat) : (List.replicate 16 (0 : Int))[i]?.getD 0 = 0 := by
  rw [List.getElem?_replicate]; split <;> rfl
theorem lay_self {a : List Int} (ha : MarkOk a) : layL a a = List.replicate 16 0 :=
  mark_ext (layL_length _ _) (by simp) fun i h => by rw [layL_get _ _ i h, zero_at]; exact x8_self _ (ha.at i).1 (ha.at i).2
theorem lay_zero {a : List Int} (ha : MarkOk a) : layL a (List.replicate 16 0) = a :=
  mark_ext (layL_length _ _) ha.len fun i h => by rw [layL_get _ _ i h, zero_at]; exact x8_zero _ (ha.at i).1 (ha.at i).2
theorem lay_back {a b : List Int} (ha : MarkOk a) (hb : MarkOk b) : layL (layL a b) b = a := by rw [lay_assoc ha hb hb, lay_self hb, lay_zero ha]
end
section
open Go.RowKit
def foldAt (ms : List (List Int)) (i : Nat) : Int := ms.foldl (fun x m => bits .xor .u8 x (m[i]?.getD 0)) 0
def foldM (ms : List (List Int)) : List Int := (List.range 16).map (foldAt ms)
def fcell (ms : List (List Int)) (i k : Nat) : List Int := (List.range 16).map fun j => if j < i then foldAt ms j else if j = i then foldAt (ms.take k) i else 0
theorem fcell_length (ms : List (List Int)) (i k : Nat) : (fcell ms i k).length = 16 := by simp [fcell]
theorem fcell_get (ms : List (List Int)) (i k j : Nat) (hj : j < 16) : (fcell ms i k)[j]?.getD 0 = if j < i then foldAt ms j else if j = i then foldAt (ms.take k) i else 0 := by
  unfold fcell; rw [List.getElem?_map, List.getElem?_range hj]; rfl
theorem fcell_zero (ms : List (List Int)) : fcell ms 0 0 = List.replicate 16 0 := by
  apply List.ext_getElem (by simp [fcell])
  intro j h1 h2
  have hj : j < 16 := by simpa [fcell] using h1
  have e := fcell_get ms 0 0 j hj
  rw [List.getElem?_eq_getElem h1] at e
  rw [List.getElem_replicate]
  refine Eq.trans e ?_
  rw [if_neg (by omega)]
  split <;> rfl
theorem fcell_next (ms : List (List Int)) (i : Nat) : fcell ms i ms.length = fcell ms (i + 1) 0 := by
  unfold fcell
  apply List.map_congr_left
  intro j _
  rw [List.take_length]
  by_cases h : j < i
  · rw [if_pos h, if_pos (by omega)]
  · by_cases e : j = i
    · subst e; rw [if_neg h, if_pos rfl, if_pos (by omega)]
    · rw [if_neg h, if_neg e, if_neg (by omega)]
      split
      · rfl
      · rfl
theorem fcell_end (ms : List (List Int)) (k : Nat) : fcell ms 16 k = foldM ms := by
  unfold fcell foldM
  apply List.map_congr_left
  intro j hj
  rw [if_pos (List.mem_range.1 hj)]
theorem foldAt_snoc (ms : List (List Int)) (i k : Nat) (hk : k < ms.length) : foldAt (ms.take (k + 1)) i = bits .xor .u8 (foldAt (ms.take k) i) ((markAt ms k)[i]?.getD 0) := by
  unfold foldAt markAt
  rw [List.take_succ_eq_append_getElem hk, List.foldl_append, List.getElem?_eq_getElem hk]
  rfl
theorem fcell_set (ms : List (List Int)) (i k : Nat) (hi : i < 16) (hk : k < ms.length) : (markL (fcell ms i k)).set i (.int .u8 (bits .xor .u8 ((fcell ms i k)[i]?.getD 0) ((markAt ms k)[i]?.getD 0))) = markL (fcell ms i (k + 1)) := by
  rw [fcell_get ms i k i hi, if_neg (Nat.lt_irrefl i), if_pos rfl, ← foldAt_snoc ms i k hk]
  unfold markL fcell
  apply List.ext_getElem?
  intro j
  by_cases hij : i = j
  · subst hij
    rw [List.getElem?_set_self (by simp; omega)]
    simp [hi]
  · rw [List.getElem?_set_ne hij]
    simp only [List.map_map, List.getElem?_map]
    rcases Nat.lt_or_ge j 16 with h | h
    · rw [List.getElem?_range h]
      simp only [Option.map_some, Function.comp]
      by_cases h1 : j < i
      · rw [if_pos h1, if_pos h1]
      · rw [if_neg h1, if_neg h1, if_neg (by omega), if_neg (by omega)]
    · rw [List.getElem?_eq_none (by simpa using h)]
      rfl
theorem fold_two {a b : List Int} (ha : MarkOk a) : foldM [a, b] = layL a b := by
  refine mark_ext (by simp [foldM]) (layL_length _ _) fun i h => ?_
  rw [layL_get _ _ i h]
  unfold foldM
  rw [List.getElem?_map, List.getElem?_range h]
  show bits .xor .u8 (bits .xor .u8 0 (a[i]?.getD 0)) (b[i]?.getD 0) = _
  rw [x8_comm 0 _ (by decide) (by decide) (ha.at i).1 (ha.at i).2, x8_zero _ (ha.at i).1 (ha.at i).2]
theorem store_u8 {w : World} {B i : Nat} {vs : List Value} {t : Nat} (h : Blk w B t vs) (hi : i < vs.length) (x : Int) : (Instr.storeAt 5 (.pointer (some ⟨B, i, none⟩)) (.int .u8 x)).run Try.prog w = .ok () (w.setCell ⟨B, i, none⟩ (.int .u8 x)) := by
  have hc := h.cell i
  rw [List.getElem?_eq_getElem hi] at hc
  have hf := h.frozen i
  go_simp
def FoldR (w : World) (ms : List (List Int)) (v : Value) (wr : World) : Prop := ∃ i : Nat, i ≤ 16 ∧ v = .int .i64 i ∧ Hid (Blk wr (w.heap.size + 1) 24 (markL (fcell ms i 0))) ∧ Hid (Blk wr w.heap.size 24 (markL (List.replicate 16 0))) ∧ Hid (Kp Nb w wr)
def FoldI (w : World) (ms : List (List Int)) (i : Nat) (v : Value) (wr : World) : Prop := ∃ k : Nat, k ≤ ms.length ∧ v = .int .i64 k ∧ Hid (Blk wr (w.heap.size + 1) 24 (markL (fcell ms i k))) ∧ Hid (Blk wr w.heap.size 24 (markL (List.replicate 16 0))) ∧ Hid (Kp Nb w wr)
set_option maxRecDepth 100000 in
set_option maxHeartbeats 4000000 in
theorem rfold_any (v : Value) (ms : List (List Int)) (w : World) (h : MkSl w v ms) :
    Calls Try.prog 23 #[v] w fun e w' => e = .returned (markV (foldM ms)) ∧ Kp Nb w w' := by
  obtain ⟨y, d, rfl⟩ := h.shape
  have H := hid h
  clear h
  obtain ⟨zs, hz⟩ : ∃ zs, zs = markL (List.replicate 16 0) := ⟨_, rfl⟩
  obtain ⟨W, hW⟩ : ∃ W, W = (w.alloc (.cells zs.toArray 24)).alloc (.cells zs.toArray 24) := ⟨_, rfl⟩
  have H0 : Hid (Blk W w.heap.size 24 zs) := hid (by rw [hW]; exact (Blk.new w _ _).alloc _)
  have H1 : Hid (Blk W (w.heap.size + 1) 24 zs) := hid (by
    have h := Blk.new (w.alloc (.cells zs.toArray 24)) 24 zs
    simp only [World.size_alloc] at h
    rw [hW]
    exact h)
  have KW : Hid (Kp Nb w W) := hid (by rw [hW]; exact ((Kp.refl Nb w).alloc _).alloc _)
  rw [hz] at hW H0 H1
  clear hz
  go_enter Try.func23, Try.ntmps23
  go_wp2_with fail
  rw [show (w.alloc (.cells #[.int .u8 0, .int .u8 0, .int .u8 0, .int .u8 0, .int .u8 0, .int .u8 0, .int .u8 0, .int .u8 0, .int .u8 0, .int .u8 0, .int .u8 0, .int .u8 0, .int .u8 0, .int .u8 0, .int .u8 0, .int .u8 0] 24)).alloc (.cells #[.int .u8 0, .int .u8 0, .int .u8 0, .int .u8 0, .int .u8 0, .int .u8 0, .int .u8 0, .int .u8 0, .int .u8 0, .int .u8 0, .int .u8 0, .int .u8 0, .int .u8 0, .int .u8 0, .int .u8 0, .int .u8 0] 24) = W from hW.symm]
  clear hW
  go_loopw [4] (FoldR w ms) (fun i _ => 16 - (intOf i).toNat)
  case atStart => exact ⟨0, by omega, rfl, hid (by rw [fcell_zero]; exact H1.out), H0, KW⟩
  case round =>
    clear H0 H1 KW
    obtain ⟨i, hi, rfl, HA, HR, HK⟩ := hrel
    by_cases hlt : i < 16
    · go_wp2
      go_loopw [13] (FoldI w ms i) (fun v _ => ms.length - (intOf v).toNat)
      case atStart => exact ⟨0, by omega, rfl, HA, HR, HK⟩
      case round =>
        clear HA HR HK
        obtain ⟨k, hk, rfl, HA, HR, HK⟩ := hrel
        by_cases hkn : k < ms.length
        · rcases (H.out.kept HK.out).2 with ⟨_, e0⟩ | ⟨blk, off, cap, e1, hc, hm, hcell⟩
          · rw [e0] at hkn
            exact absurd hkn (Nat.not_lt_zero _)
          · injection e1 with e1 _ e2
            subst e1 e2
            have HX := hid (hcell k hkn)
            have M1 := hid (H.out.1 k)
            have HQ := hid (fcell_set ms i k hlt hkn)
            have CA : Hid ((markL (fcell ms i k))[i]? = some (.int .u8 ((fcell ms i k)[i]?.getD 0))) := hid (markL_get _ i (by rw [fcell_length]; exact hlt))
            have CZ : Hid ((markL (markAt ms k))[i]? = some (.int .u8 ((markAt ms k)[i]?.getD 0))) := hid (markL_get _ i (by rw [M1.out.len]; exact hlt))
            have FL : Hid ((markL (fcell ms i k)).length = 16) := hid (by rw [markL_length, fcell_length])
            unfold maxLen at hm
            generalize (fcell ms i k)[i]?.getD 0 = x at CA HQ
            generalize (markAt ms k)[i]?.getD 0 = yb at CZ HQ
            generalize markAt ms k = z at HX M1 CZ
            obtain ⟨N, hN⟩ : ∃ N, N = wr.heap.size := ⟨_, rfl⟩
            have hz := Blk.new wr 24 (markL (List.replicate 16 0))
            obtain ⟨W, hW⟩ : ∃ W, W = (wr.alloc (.cells (markL (List.replicate 16 0)).toArray 24)).setCells wr.heap.size 0 (markL z) := ⟨_, rfl⟩
            have kW : Kp Nb wr W := by rw [hW]; exact Kp.setCells (fun h => absurd h (Nat.lt_irrefl _)) _ 0 _ ((Kp.refl Nb wr).alloc _)
            have TH := hid (mark_there hz (by rw [markL_length]; rfl) M1.out)
            have SI := hid (mark_sized M1.out)
            have ON := hid (all_oneCell_toArray (markL_one z))
            have HZ : Hid (Blk W N 24 (markL z)) := hid (by rw [hW, hN]; exact row_set hz (by rw [markL_length, markL_length, M1.out.len]; rfl))
            have HA1 := hid (HA.out.kept kW (fun h => h))
            have HR1 := hid (HR.out.kept kW (fun h => h))
            have HK1 := hid (HK.out.trans kW (fun _ _ h => h))
            clear hz kW hcell
            go_upto_region 8 with (first
              | (refine wpList_load_mid (by rfl) 24 (.tmp 15) (by rfl) blk (off + k * 16) (by rfl) (markL z) _ HX.out under_mark rfl (mark_infoL z M1.out.len) ?_)
              | (refine wpList_store_mid (by rfl) 24 (.tmp 6) (.tmp 16) (by rfl) wr.heap.size 0 (markL z).toArray (by rfl) (by rfl) TH.out SI.out ON.out ?_))
            rw [show (wr.alloc (.cells #[.int .u8 0, .int .u8 0, .int .u8 0, .int .u8 0, .int .u8 0, .int .u8 0, .int .u8 0, .int .u8 0, .int .u8 0, .int .u8 0, .int .u8 0, .int .u8 0, .int .u8 0, .int .u8 0, .int .u8 0, .int .u8 0] 24)).setCells wr.heap.size 0 (markL z) = W from hW.symm, ← hN]
            clear hW hN TH SI ON
            have PZ : Hid ((0 : Int) ≤ (i : Int)) := hid (by omega)
            have PL : Hid ((i : Int) < 16) := hid (by omega)
            have PT : Hid (((i : Nat) : Int).toNat = i) := hid (by omega)
            refine region_vals_last (n := 9) [none, none, none, none, none, none, none, none, none, none, none, none, none, none, none, none, none, some 0, some 1, some 2, some 3, some 4, some 5, some 6, some 7, some 8, none, none] [[(4, none)], [(4, none)], [(3, none), (18, some 1)], [(19, some 2)], [(4, none)], [(6, none), (21, some 4)], [(22, some 5)], [(20, some 3), (23, some 6)], [(3, none), (17, some 0)], [(25, some 8), (24, some 7)]] [some 17, some 18, some 19, some 20, some 21, some 22, some 23, some 24, some 25] [.int .i64 (i : Int), .int .i64 (i : Int), .pointer (some ⟨(w.heap.size + 1), i, none⟩), .int .u8 x, .int .i64 (i : Int), .pointer (some ⟨N, i, none⟩), .int .u8 yb, .int .u8 (bits .xor .u8 x yb), .pointer (some ⟨(w.heap.size + 1), i, none⟩)] (fun w' => Hid (Kp Nb W w')) (by kernel_rfl) (by kernel_rfl) (by kernel_rfl) (by kernel_rfl) ({ dst := none, op := Op.store 5 (Operand.tmp 25) (Operand.tmp 24), type := 0, pos := "ref.go:67", after := #[{ on := 8, ground := Ground.data }, { on := 7, ground := Ground.data }, { on := 0, ground := Ground.phase }, { on := 1, ground := Ground.phase }, { on := 2, ground := Ground.phase }, { on := 3, ground := Ground.phase }, { on := 4, ground := Ground.phase }, { on := 5, ground := Ground.phase }, { on := 6, ground := Ground.phase }, { on := 7, ground := Ground.phase }], guard := none }) rfl rfl (by kernel_rfl) (by kernel_rfl) ?hS (?hstep : VFrom _ _ _ _ _ _ 0 9).start ?hend
            case hstep =>
              refine VFrom.cons (VStep.val _ rfl _ rfl (.int .i64 (i : Int)) rfl trivial (fun ev wq hS he hr => ?_)) ?_
              · have r0 : ev (.tmp 4) = .int .i64 (i : Int) := hr (4, none) (by simp); have hk := he.1; clear hr he
                go_simp
              refine VFrom.cons (VStep.val _ rfl _ rfl (.int .i64 (i : Int)) rfl trivial (fun ev wq hS he hr => ?_)) ?_
              · have r0 : ev (.tmp 4) = .int .i64 (i : Int) := hr (4, none) (by simp); have hk := he.1; clear hr he
                go_simp
              refine VFrom.cons (VStep.val _ rfl _ rfl (.pointer (some ⟨(w.heap.size + 1), i, none⟩)) rfl trivial (fun ev wq hS he hr => ?_)) ?_
              · have r0 : ev (.tmp 3) = .pointer (some ⟨(w.heap.size + 1), 0, none⟩) := hr (3, none) (by simp); have r1 : ev (.tmp 18) = .int .i64 (i : Int) := hr (18, some 1) (by simp); have hk := he.1; clear hr he
                have e1 := PZ.out; have e2 := PL.out; have e3 := PT.out
                go_simp
              refine VFrom.cons (VStep.val _ rfl _ rfl (.int .u8 x) rfl trivial (fun ev wq hS he hr => ?_)) ?_
              · have r0 : ev (.tmp 19) = .pointer (some ⟨(w.heap.size + 1), i, none⟩) := hr (19, some 2) (by simp); have hk := he.1; clear hr he
                have c0 := ((HA1.out.kept hS.out (fun h => h)).cell i).trans CA.out
                go_simp
              refine VFrom.cons (VStep.val _ rfl _ rfl (.int .i64 (i : Int)) rfl trivial (fun ev wq hS he hr => ?_)) ?_
              · have r0 : ev (.tmp 4) = .int .i64 (i : Int) := hr (4, none) (by simp); have hk := he.1; clear hr he
                go_simp
              refine VFrom.cons (VStep.val _ rfl _ rfl (.pointer (some ⟨N, i, none⟩)) rfl trivial (fun ev wq hS he hr => ?_)) ?_
              · have r0 : ev (.tmp 6) = .pointer (some ⟨N, 0, none⟩) := hr (6, none) (by simp); have r1 : ev (.tmp 21) = .int .i64 (i : Int) := hr (21, some 4) (by simp); have hk := he.1; clear hr he
                have e1 := PZ.out; have e2 := PL.out; have e3 := PT.out
                go_simp
              refine VFrom.cons (VStep.val _ rfl _ rfl (.int .u8 yb) rfl trivial (fun ev wq hS he hr => ?_)) ?_
              · have r0 : ev (.tmp 22) = .pointer (some ⟨N, i, none⟩) := hr (22, some 5) (by simp); have hk := he.1; clear hr he
                have c0 := ((HZ.out.kept hS.out (fun h => h)).cell i).trans CZ.out
                go_simp
              refine VFrom.cons (VStep.val _ rfl _ rfl (.int .u8 (bits .xor .u8 x yb)) rfl trivial (fun ev wq hS he hr => ?_)) ?_
              · have r0 : ev (.tmp 20) = .int .u8 x := hr (20, some 3) (by simp); have r1 : ev (.tmp 23) = .int .u8 yb := hr (23, some 6) (by simp); have hk := he.1; clear hr he
                go_simp
              refine VFrom.cons (VStep.val _ rfl _ rfl (.pointer (some ⟨(w.heap.size + 1), i, none⟩)) rfl trivial (fun ev wq hS he hr => ?_)) ?_
              · have r0 : ev (.tmp 3) = .pointer (some ⟨(w.heap.size + 1), 0, none⟩) := hr (3, none) (by simp); have r1 : ev (.tmp 17) = .int .i64 (i : Int) := hr (17, some 0) (by simp); have hk := he.1; clear hr he
                have e1 := PZ.out; have e2 := PL.out; have e3 := PT.out
                go_simp
              exact VFrom.nil
            case hS => exact hid ((Kp.refl Nb W).drew)
            case hend =>
              intro af wy haf kh
              have HE := HA1.out.kept kh.out (fun h => h)
              have HA3 : Hid (Blk (wy.setCell ⟨w.heap.size + 1, i, none⟩ (.int .u8 (bits .xor .u8 x yb))) (w.heap.size + 1) 24 (markL (fcell ms i (k + 1)))) := hid (by rw [← HQ.out]; exact HE.set i _)
              have HR3 : Hid (Blk (wy.setCell ⟨w.heap.size + 1, i, none⟩ (.int .u8 (bits .xor .u8 x yb))) w.heap.size 24 (markL (List.replicate 16 0))) := hid ((HR1.out.kept kh.out (fun h => h)).other _ (by dsimp only; omega) _)
              have HK3 := hid ((HK1.out.trans kh.out (fun _ _ h => h)).new (B := w.heap.size + 1) (by omega) i (.int .u8 (bits .xor .u8 x yb)))
              refine wp_store_at 5 (.tmp 25) (.tmp 24) rfl (p := ⟨w.heap.size + 1, i, none⟩) (v := .int .u8 (bits .xor .u8 x yb)) (by rw [haf.out]; kernel_rfl) (by rw [haf.out]; kernel_rfl) (store_u8 HE (by rw [FL.out]; exact hlt) _) ?_
              rw [haf.out]
              clear haf kh HE
              simp only [putAll, List.zip_cons_cons, List.zip_nil_right, List.foldl_cons, List.foldl_nil, Act.put, List.setIfInBounds_toArray, List.set_cons_zero, List.set_cons_succ]
              go_wp2
              go_roundw
              case rel => exact ⟨k + 1, by omega, by go_num, HA3, HR3, HK3⟩
              case measure => simp [intOf]; omega
        · obtain rfl : k = ms.length := by omega
          have HA3 : Hid (Blk wr (w.heap.size + 1) 24 (markL (fcell ms (i + 1) 0))) := hid (by rw [← fcell_next]; exact HA.out)
          clear HA
          go_wp2
          go_roundw
          case rel => exact ⟨i + 1, by omega, by go_num, HA3, HR, HK⟩
          case measure => simp [intOf]; omega
    · obtain rfl : i = 16 := by omega
      rw [fcell_end] at HA
      have HL : Hid ((foldM ms).length = 16) := hid (by simp [foldM])
      obtain ⟨m, hm⟩ : ∃ m, foldM ms = m := ⟨_, rfl⟩
      rw [hm] at HA HL
      have HM := hid hm
      clear hm
      have hsz : (markL m).toArray.size = 16 := by rw [List.size_toArray, markL_length, HL.out]
      have TH : Hid (wr.there w.heap.size 0 (markL m).toArray.size) := hid (by rw [hsz]; exact HR.out.there 0 16 (by simp [markL_length]))
      clear hsz
      have SI : Hid ((Try.prog.info? 24).map (·.size) = some (markL m).toArray.size) := hid (by rw [List.size_toArray, markL_length, HL.out]; exact mark_info)
      have ON := hid (all_oneCell_toArray (markL_one m))
      have HF : Hid (Blk (wr.setCells w.heap.size 0 (markL m)) w.heap.size 24 (markL m)) := hid (row_set HR.out (by simp [markL_length, HL.out]))
      have HKF : Hid (Kp Nb w (wr.setCells w.heap.size 0 (markL m))) := hid (Kp.setCells (fun h => by omega) _ 0 wr HK.out)
      go_wp2_with (first
        | (refine wpList_load_mid (by rfl) 24 (.tmp 3) (by rfl) (w.heap.size + 1) 0 (by rfl) (markL m) _ (range_of HA.out) under_mark rfl (mark_infoL m HL.out) ?_)
        | (refine wpList_store_mid (by rfl) 24 (.tmp 2) (.tmp 27) (by rfl) w.heap.size 0 (markL m).toArray (by rfl) (by rfl) TH.out SI.out ON.out ?_))
      refine bodyPost_ret (v := markV m) (results_cell rfl _ w.heap.size (by rfl) _ (row_loadVar under_mark rfl (mark_infoL m HL.out) HF.out 0 (fun j _ => by rw [Nat.zero_add]))) rfl ⟨by rw [HM.out], HKF.out⟩
end

end Go.Proofs.Ytijlmfmpfjjlpaa
