/-
  Of earlier texts what is used here: U64, SipPlain, SipA, SipB, SipC, SipD .. No condition.
-/
import Derived.Test.YtijlmfmpfjjlpaaKp
import Derived.Test.YtijlmfmpfjjlpaaRow
import Derived.Test.YtijlmfmpfjjlpaaRowCut
import Derived.Test.YtijlmfmpfjjlpaaGhostR
import Derived.Test.YtijlmfmpfjjlpaaRowApp
import Derived.Test.YtijlmfmpfjjlpaaColl
import Derived.Test.YtijlmfmpfjjlpaaVars
import Derived.Test.YtijlmfmpfjjlpaaMkit
import Derived.Test.YtijlmfmpfjjlpaaMkf
import Derived.Test.YtijlmfmpfjjlpaaMkp
import Derived.Test.YtijlmfmpfjjlpaaMke
import Derived.Test.YtijlmfmpfjjlpaaProg
import Derived.BigQuiet
import Derived.ChangeAlike
import Derived.ChangeKeysEq
import Derived.Deep.AppendLies
import Derived.Deep.DeepCutAuto
import Derived.Deep.QuietTactic
import Derived.Deep.RegionHeld3
import Derived.Deep.RegionLaw
import Derived.Laws.IdiomStrings
import Derived.Lib.BitFns
import Derived.Lib.SlBytesConst
import Derived.Lib.SliceRun
import Derived.Lib.Walk
import Derived.Maps.AppendAt
import Derived.OwnWalk
import Derived.RegionTactic
import Derived.StillTailTactics
import Derived.WalkKit
import Derived.WalkLawsBesides
import Derived.WalkSpells
namespace Go.Proofs.Ytijlmfmpfjjlpaa
section
open Go.RowKit
theorem take_snoc (zs : List Int) (k : Nat) (h : k < zs.length) : zs.take (k + 1) = zs.take k ++ [zs[k]?.getD 0] := by
  rw [List.take_succ_eq_append_getElem h, List.getElem?_eq_getElem h]; rfl
end
section
open Go.RowKit
theorem BySl.lit (w : World) (t : TypeId) (zs : List Int) (hz : ∀ z ∈ zs, 0 ≤ z ∧ z < 256) (hm : zs.length ≤ maxLen) (S : Nat → Prop) (hn : ¬ S w.heap.size) :
    BySl S (w.alloc (.cells (zs.map (Value.int .u8)).toArray t)) (.slice (some ⟨w.heap.size, 0, Option.none⟩) zs.length zs.length) zs := by
  refine ⟨IsBytes.of hz, .inr ⟨_, _, _, rfl, Nat.le_refl _, hm, fun i hi => ?_, fun _ => hn⟩⟩
  rw [Nat.zero_add, (Blk.new w t (zs.map (Value.int .u8))).cell i, List.getElem?_map, List.getElem?_eq_getElem hi]
  rfl
end
section
open Go.RowKit
theorem pow_nat (n : Nat) : (256 : Int) ^ n = ((2 ^ (8 * n) : Nat) : Int) := by
  have e : (2 : Nat) ^ (8 * n) = 256 ^ n := by rw [Nat.pow_mul]
  rw [e, Int.natCast_pow]; rfl
end
section
open Go.RowKit
theorem st_size (zs : List Int) : (st zs).size = zs.length := by simp [st, ByteArray.size]
theorem st_append (xs ys : List Int) : st (xs ++ ys) = st xs ++ st ys := by
  apply ByteArray.ext
  simp [st, ByteArray.data_append]
end
section
open Go.RowKit
theorem map_eq : ∀ (xs ys : List Int), IsBytes xs → IsBytes ys → (xs.map (fun z => UInt8.ofNat z.toNat) = ys.map (fun z => UInt8.ofNat z.toNat)) → xs = ys
  | [], [], _, _, _ => rfl
  | [], _ :: _, _, _, h => by simp at h
  | _ :: _, [], _, _, h => by simp at h
  | a :: x, b :: y, hx, hy, h => by
    rw [List.map_cons, List.map_cons, List.cons.injEq] at h
    rw [(byte_eq a b hx.head hy.head).1 h.1, map_eq x y hx.tail hy.tail h.2]
theorem st_beq (xs ys : List Int) (hx : IsBytes xs) (hy : IsBytes ys) : ((st xs).toList == (st ys).toList) = decide (xs = ys) := by
  rw [st_list, st_list]
  by_cases h : xs = ys
  · subst h; simp
  · rw [decide_eq_false h, beq_eq_false_iff_ne]
    exact fun e => h (map_eq xs ys hx hy e)
end
section
open Go.RowKit
theorem bl_bounds : ∀ (f x : Nat), x < 2 ^ f → x ≠ 0 → 1 ≤ Lib.bitLenAux f x ∧ 2 ^ (Lib.bitLenAux f x - 1) ≤ x ∧ x < 2 ^ Lib.bitLenAux f x
  | 0, x, h, h0 => by simp at h; omega
  | f + 1, x, h, h0 => by
    unfold Lib.bitLenAux
    rw [if_neg h0]
    by_cases h2 : x / 2 = 0
    · have hx : x = 1 := by omega
      subst hx
      have e : Lib.bitLenAux f (1 / 2) = 0 := by
        cases f with
        | zero => rfl
        | succ f => unfold Lib.bitLenAux; rfl
      rw [e]
      decide
    · have ih := bl_bounds f (x / 2) (by rw [Nat.pow_succ] at h; omega) h2
      obtain ⟨i1, i2, i3⟩ := ih
      refine ⟨by omega, ?_, ?_⟩
      · have e : 1 + Lib.bitLenAux f (x / 2) - 1 = (Lib.bitLenAux f (x / 2) - 1) + 1 := by omega
        rw [e, Nat.pow_succ]
        omega
      · rw [Nat.add_comm, Nat.pow_succ]
        omega
theorem bitLen_bounds (x : Nat) (h : x < 18446744073709551616) (h0 : x ≠ 0) : 1 ≤ Lib.bitLen x ∧ 2 ^ (Lib.bitLen x - 1) ≤ x ∧ x < 2 ^ Lib.bitLen x := bl_bounds 64 x h h0
theorem kOf_bounds (u : Int) (h0 : 0 < u) (h1 : u < 18446744073709551616) : 1 ≤ kOf u ∧ (2 : Int) ^ (8 * (kOf u - 1)) ≤ u ∧ u < 2 ^ (8 * kOf u) := by
  obtain ⟨U, rfl⟩ := Int.eq_ofNat_of_zero_le (Int.le_of_lt h0)
  have hb := bitLen_bounds U (by omega) (by omega)
  unfold kOf
  rw [Int.toNat_natCast]
  obtain ⟨L, hL⟩ : ∃ L, L = Lib.bitLen U := ⟨_, rfl⟩
  rw [← hL] at hb ⊢
  obtain ⟨b1, b2, b3⟩ := hb
  have e1 : 2 ^ (8 * ((L + 7) / 8 - 1)) ≤ 2 ^ (L - 1) := Nat.pow_le_pow_right (by decide) (by omega)
  have e2 : 2 ^ L ≤ 2 ^ (8 * ((L + 7) / 8)) := Nat.pow_le_pow_right (by decide) (by omega)
  refine ⟨by omega, ?_, ?_⟩
  · have : (((2 ^ (8 * ((L + 7) / 8 - 1)) : Nat)) : Int) ≤ (U : Int) := by omega
    rw [Int.natCast_pow] at this
    exact this
  · have : (U : Int) < (((2 ^ (8 * ((L + 7) / 8)) : Nat)) : Int) := by omega
    rw [Int.natCast_pow] at this
    exact this
/-- A number of bytes, the greatest first. -/
def beN (xs : List Int) : Int := xs.foldl (fun a x => a * 256 + x) 0
theorem beN_snoc (xs : List Int) (x : Int) : beN (xs ++ [x]) = beN xs * 256 + x := by unfold beN; rw [List.foldl_append]; rfl
theorem beN_acc (xs : List Int) : ∀ a : Int, xs.foldl (fun a x => a * 256 + x) a = a * 256 ^ xs.length + beN xs := by
  induction xs with
  | nil => intro a; simp [beN]
  | cons x r ih =>
    intro a
    show r.foldl _ (a * 256 + x) = _
    have h2 : beN (x :: r) = (0 * 256 + x) * 256 ^ r.length + beN r := by show r.foldl _ (0 * 256 + x) = _; rw [ih]
    rw [ih, h2, List.length_cons, Int.pow_succ, Int.add_mul, Int.add_mul, Int.zero_mul, Int.zero_mul, Int.zero_add, Int.mul_comm (256 ^ r.length) 256, ← Int.mul_assoc]
    omega
theorem beN_cons (x : Int) (r : List Int) : beN (x :: r) = x * 256 ^ r.length + beN r := by
  show r.foldl _ (0 * 256 + x) = _
  rw [beN_acc, Int.zero_mul, Int.zero_add]
theorem beN_range (xs : List Int) (h : IsBytes xs) : 0 ≤ beN xs ∧ beN xs < 256 ^ xs.length := by
  induction xs with
  | nil => exact ⟨Int.le_refl _, by decide⟩
  | cons x r ih =>
    have i := ih h.tail
    have hx := h.head
    rw [beN_cons, List.length_cons, Int.pow_succ]
    have hp : (0 : Int) ≤ 256 ^ r.length := Int.pow_nonneg (by decide)
    obtain ⟨Q, hQ⟩ : ∃ Q : Int, Q = 256 ^ r.length := ⟨_, rfl⟩
    rw [← hQ] at i hp ⊢
    have e1 : 0 ≤ x * Q := Int.mul_nonneg hx.1 hp
    have e2 : x * Q ≤ 255 * Q := Int.mul_le_mul_of_nonneg_right (by omega) hp
    omega
theorem div_step (u : Int) (m : Nat) : u / 2 ^ (8 * (m + 1)) * 256 + u / 2 ^ (8 * m) % 256 = u / 2 ^ (8 * m) := by
  have e : (2 : Int) ^ (8 * (m + 1)) = 2 ^ (8 * m) * 256 := by rw [show 8 * (m + 1) = 8 * m + 8 from by omega, Int.pow_add]; rfl
  rw [e, ← Int.ediv_ediv_of_nonneg (Int.pow_nonneg (by decide))]
  omega
theorem digits_num (u : Int) (h0 : 0 ≤ u) (k : Nat) (hk : u < 2 ^ (8 * k)) : ∀ j, j ≤ k → beN (digits u k j) = u / 2 ^ (8 * (k - j))
  | 0, _ => by
    show (0 : Int) = _
    rw [Nat.sub_zero]
    exact (Int.ediv_eq_zero_of_lt h0 hk).symm
  | j + 1, hj => by
    rw [digits_succ, beN_snoc, digits_num u h0 k hk j (by omega)]
    unfold digit
    have e : k - j = (k - (j + 1)) + 1 := by omega
    have e2 : k - 1 - j = k - (j + 1) := by omega
    rw [e, e2]
    exact div_step u _
theorem digits_all (u : Int) (h0 : 0 ≤ u) (k : Nat) (hk : u < 2 ^ (8 * k)) : beN (digits u k k) = u := by
  rw [digits_num u h0 k hk k (Nat.le_refl _), Nat.sub_self]
  exact Int.ediv_one u
theorem digits_length (u : Int) (k j : Nat) : (digits u k j).length = j := by unfold digits; simp
theorem digits_bytes (u : Int) (k j : Nat) : IsBytes (digits u k j) := by
  refine IsBytes.of fun z hz => ?_
  unfold digits at hz
  obtain ⟨i, _, rfl⟩ := List.mem_map.1 hz
  unfold digit
  omega
theorem or_step (A d : Int) (h0 : 0 ≤ A) (h1 : A < 72057594037927936) (d0 : 0 ≤ d) (d1 : d < 256) : bits .or .u64 (IntKind.u64.wrap (A * 256)) d = A * 256 + d := by
  obtain ⟨a, rfl⟩ := Int.eq_ofNat_of_zero_le h0
  obtain ⟨e, rfl⟩ := Int.eq_ofNat_of_zero_le d0
  have hw : IntKind.u64.wrap ((a : Int) * 256) = ((a * 256 : Nat) : Int) := by rw [IntKind.wrap_u64]; omega
  rw [hw, bits_or_u64_nat _ _ (by omega) (by omega)]
  have := Nat.shiftLeft_add_eq_or_of_lt (i := 8) (show e < 2 ^ 8 by omega) a
  rw [Nat.shiftLeft_eq, show (2 : Nat) ^ 8 = 256 from rfl] at this
  omega
theorem beTo_num (zs : List Int) (h : IsBytes zs) : ∀ k, k ≤ 8 → k ≤ zs.length → beTo zs k = beN (zs.take k)
  | 0, _, _ => rfl
  | k + 1, hk, hl => by
    have ih := beTo_num zs h k (by omega) (by omega)
    have hr := beN_range (zs.take k) (h.take k)
    rw [List.length_take, Nat.min_eq_left (by omega)] at hr
    have hp : (256 : Int) ^ k ≤ 256 ^ 7 := by
      rw [pow_nat, pow_nat]
      have := Nat.pow_le_pow_right (n := 2) (by decide) (show 8 * k ≤ 8 * 7 by omega)
      omega
    have hq : (256 : Int) ^ 7 = 72057594037927936 := by decide
    show bits .or .u64 (IntKind.u64.wrap (beTo zs k * 256)) (zs[k]?.getD 0) = _
    rw [ih, take_snoc zs k (by omega), beN_snoc]
    exact or_step _ _ hr.1 (by omega) (h k).1 (h k).2
theorem numBytes_bytes (u : Int) (h0 : 0 ≤ u) (h1 : u < 18446744073709551616) : IsBytes (numBytes u) := by
  unfold numBytes
  split
  · exact IsBytes.one h0 (by omega)
  · have := kOf_le u h1
    exact (IsBytes.one (by omega) (by omega)).append (digits_bytes _ _ _)
theorem numBytes_size (u : Int) : (numBytes u).length = sizeN u := by
  unfold numBytes sizeN
  split
  · rfl
  · rw [List.length_append, digits_length]; rfl
theorem pow_le (a b : Nat) (h : a ≤ b) : (2 : Int) ^ a ≤ 2 ^ b := by
  have := Nat.pow_le_pow_right (n := 2) (by decide) h
  have e1 : ((2 ^ a : Nat) : Int) = 2 ^ a := Int.natCast_pow 2 a
  have e2 : ((2 ^ b : Nat) : Int) = 2 ^ b := Int.natCast_pow 2 b
  omega
theorem numBytes_head (u : Int) (h0 : 0 ≤ u) (h1 : u < 18446744073709551616) :
    (u ≤ 247 ∧ numBytes u = [u]) ∨ (247 < u ∧ 1 ≤ kOf u ∧ numBytes u = (247 + (kOf u : Int)) :: digits u (kOf u) (kOf u) ∧ (2 : Int) ^ (8 * (kOf u - 1)) ≤ u ∧ u < 2 ^ (8 * kOf u)) := by
  by_cases hu : u ≤ 247
  · exact .inl ⟨hu, by unfold numBytes; rw [if_pos hu]⟩
  · obtain ⟨k1, k2, k3⟩ := kOf_bounds u (by omega) h1
    exact .inr ⟨by omega, k1, by unfold numBytes; rw [if_neg hu]; rfl, k2, k3⟩
end
section
open Go.RowKit
theorem idx_any (zs : List Int) (w : World) (hz : IsBytes zs) (i : Nat) (hi : i < zs.length) :
    (Instr.index 9 (.string (st zs)) (.int .i64 i)).run Try.prog w = .ok (.int .u8 (zs[i]?.getD 0)) w := by
  rw [run_index_string (P := Try.prog) w 9 (st zs) .i64 i Try.underlying9, dif_pos ⟨by omega, by rw [st_size]; omega⟩]
  have h := hz i
  have e : ((st zs)[(i : Int).toNat]'(by rw [st_size]; omega)) = UInt8.ofNat (zs[i]?.getD 0).toNat := by
    show ((zs.map fun z => UInt8.ofNat z.toNat).toArray)[(i : Int).toNat]'_ = _
    rw [List.getElem?_eq_getElem hi]
    simp
  rw [e]
  congr 2
  rw [UInt8.toNat_ofNat']
  omega
theorem st_extract (zs : List Int) (n : Nat) : (st zs).extract n zs.length = st (zs.drop n) := by
  apply ByteArray.ext
  simp [st, ByteArray.data_extract]
  exact List.take_of_length_le (by simp)
theorem conv_one (w : World) (x : Int) (h0 : 0 ≤ x) (h1 : x < 256) :
    (convert 45 9 (.slice (some ⟨w.heap.size, 0, none⟩) 1 1)).run Try.prog (w.alloc (.cells #[.int .u8 x] 5)) = .ok (.string (st [x])) (w.alloc (.cells #[.int .u8 x] 5)) :=
  conv_any (BySl.lit w 5 [x] (by simpa using ⟨h0, h1⟩) (by show 1 ≤ maxLen; decide) Nb (fun h => h))
end
section
open Go.RowKit
def RnR (u : Int) (k : Nat) (w : World) (v s : Value) (wr : World) : Prop :=
  ∃ j : Nat, j ≤ k ∧ v = .int .u64 (u / 2 ^ (8 * j)) ∧ s = .string (st ((digits u k k).drop (k - j))) ∧ Hid (Kp Nb w wr)
theorem digits_get (u : Int) (k i : Nat) (hi : i < k) : (digits u k k)[i]?.getD 0 = digit u k i := by
  unfold digits
  simp [hi]
theorem digits_drop (u : Int) (k j : Nat) (hj : j < k) : (digits u k k).drop (k - (j + 1)) = u / 2 ^ (8 * j) % 256 :: (digits u k k).drop (k - j) := by
  have hl := digits_length u k k
  have hd := List.drop_eq_getElem_cons (l := digits u k k) (i := k - (j + 1)) (by omega)
  have hg := digits_get u k (k - (j + 1)) (by omega)
  rw [List.getElem?_eq_getElem (by omega), Option.getD_some] at hg
  rw [hd, hg, show k - (j + 1) + 1 = k - j from by omega]
  unfold digit
  rw [show k - 1 - (k - (j + 1)) = j from by omega]
set_option maxRecDepth 100000 in
set_option maxHeartbeats 400000 in
theorem refn_number (u : Int) (w : World) (h0 : 0 ≤ u) (h1 : u < 18446744073709551616) :
    Calls Try.prog 46 #[.int .u64 u] w fun e w' => e = .returned (.string (st (numBytes u))) ∧ Kp Nb w w' := by
  by_cases hle : u ≤ 247
  · have hc := fun w => conv_one w u h0 (by omega)
    have hn := hid (show numBytes u = [u] by unfold numBytes; rw [if_pos hle])
    go_enter Try.func46, Try.ntmps46
    go_wp2
    go_ret
    exact ⟨by rw [hn.out]; rfl, (Kp.refl Nb w).alloc _⟩
  · obtain ⟨k1, k2, k3⟩ := kOf_bounds u (by omega) h1
    have k8 := kOf_le u h1
    have hn := hid (show numBytes u = [247 + (kOf u : Int)] ++ digits u (kOf u) (kOf u) by unfold numBytes; rw [if_neg hle])
    obtain ⟨k, hk⟩ : ∃ k, k = kOf u := ⟨_, rfl⟩
    rw [← hk] at k1 k2 k3 k8 hn
    have K2 := hid k2
    have K3 := hid k3
    have H0 := hid h0
    clear hk k2 k3
    go_enter Try.func46, Try.ntmps46
    go_wp2
    go_loopw [0, 3] (RnR u k w) (fun v _ _ => (intOf v).toNat)
    case atStart => exact ⟨0, Nat.zero_le _, by simp, by rw [Nat.sub_zero, List.drop_of_length_le (by rw [digits_length]; exact Nat.le_refl _)]; rfl, Kp.refl Nb w⟩
    case round =>
      obtain ⟨j, hj, rfl, rfl, hkp⟩ := hrel
      by_cases hjk : j < k
      · have hp := pow_le (8 * j) (8 * (k - 1)) (by omega)
        have hpp : (0 : Int) < 2 ^ (8 * j) := Int.pow_pos (by decide)
        obtain ⟨X, hX⟩ : ∃ X, X = u / 2 ^ (8 * j) := ⟨_, rfl⟩
        have x0 : 1 ≤ X := by rw [hX]; exact (Int.le_ediv_iff_mul_le hpp).2 (by have := K2.out; omega)
        have x1 : X ≤ u := by rw [hX]; exact Int.ediv_le_self _ H0.out
        have x2 : X < 18446744073709551616 := by omega
        have xn : X / 256 = u / 2 ^ (8 * (j + 1)) := by
          rw [hX, Int.ediv_ediv_of_nonneg (Int.le_of_lt hpp), show (2 : Int) ^ (8 * (j + 1)) = 2 ^ (8 * j) * 256 from by rw [show 8 * (j + 1) = 8 * j + 8 from by omega, Int.pow_add]; rfl]
        have hs := digits_drop u k j hjk
        rw [← hX] at hs ⊢
        have hc := conv_one wr (X % 256) (by omega) (by omega)
        obtain ⟨S, hS⟩ : ∃ S, S = st ((digits u k k).drop (k - j)) := ⟨_, rfl⟩
        have hSz : S.size ≤ 8 := by rw [hS, st_size, List.length_drop, digits_length]; omega
        have hSt : Hid (st [X % 256] ++ S = st ((digits u k k).drop (k - (j + 1)))) := by rw [hs, hS]; unfold Hid; rw [← st_append]; rfl
        have g2 : ¬ (9223372036854775807 < (st [X % 256]).size + S.size) := by rw [st_size]; simp only [List.length_cons, List.length_nil]; omega
        have gx : 0 < X := by omega
        rw [← hS]
        have HR := hid (show RnR u k w (.int .u64 (X / 256)) (.string (st [X % 256] ++ S)) (wr.alloc (.cells #[.int .u8 (X % 256)] 5)) from ⟨j + 1, by omega, by rw [xn], by rw [hSt.out], hkp.out.alloc _⟩)
        have HM := hid (show (intOf (.int .u64 (X / 256))).toNat < (intOf (.int .u64 X)).toNat by simp only [intOf]; omega)
        clear hX hs hS hSt xn hpp hp x1
        go_wp2
        exact ⟨HR.out, HM.out⟩
      · obtain rfl : j = k := by omega
        have hz : u / 2 ^ (8 * j) = 0 := Int.ediv_eq_zero_of_lt H0.out K3.out
        rw [hz, Nat.sub_self, List.drop_zero]
        have hc := conv_one wr (247 + (j : Int)) (by omega) (by omega)
        have hsz : (st (digits u j j)).size = j := by rw [st_size, digits_length]
        have hSt := hid (show st [247 + (j : Int)] ++ st (digits u j j) = st (numBytes u) by rw [hn.out, st_append])
        obtain ⟨S, hS⟩ : ∃ S, S = st (digits u j j) := ⟨_, rfl⟩
        rw [← hS] at hsz hSt ⊢
        have g2 : ¬ (9223372036854775807 < (st [247 + (j : Int)]).size + S.size) := by rw [st_size, hsz]; simp only [List.length_cons, List.length_nil]; omega
        clear hS hz
        go_wp2
        go_ret
        exact ⟨by rw [← hSt.out]; rfl, hkp.out.alloc _⟩
end
section
open Go.RowKit
theorem st_take (zs : List Int) (n : Nat) : (st zs).extract 0 n = st (zs.take n) := by
  apply ByteArray.ext
  simp [st, ByteArray.data_extract]
end
section
open Go.RowKit
/-- The document's eye: what is left, the error. -/
def RefAt (w : World) (B : Nat) (zs : List Int) (e : Int) : Prop := Blk w B 55 [.string (st zs), .int .i64 e]
theorem RefAt.kept {S : Nat → Prop} {w w' : World} {B : Nat} {zs : List Int} {e : Int} (h : RefAt w B zs e) (k : Kp S w w') (hS : ¬ S B) : RefAt w' B zs e := Blk.kept h k hS
set_option maxHeartbeats 400000 in
theorem refi_fail (B : Nat) (zs : List Int) (e f : Int) (w : World) (h : RefAt w B zs e) :
    Calls Try.prog 54 #[.pointer (some ⟨B, 0, none⟩), .int .i64 f] w fun r w' => r = .returned (.tuple #[]) ∧ RefAt w' B (failS zs e f) (failE e f) ∧ Kp (Jb B) w w' := by
  have c1 := Blk.cell h 1
  have c0 := Blk.cell h 0
  simp only [List.getElem?_cons_zero, List.getElem?_cons_succ] at c0 c1
  have f0 := Blk.frozen h 0
  have f1 := Blk.frozen h 1
  have HB := hid h
  clear h
  by_cases h0 : e = 0
  · by_cases h1 : f = 0
    · have g1 : (f != 0) = false := by rw [bne_eq_false_iff_eq]; exact h1
      subst h0 h1
      go_enter Try.func54, Try.ntmps54
      go_wp2
      go_end0
      exact ⟨rfl, HB.out, Kp.refl _ _⟩
    · have HN := hid (show (e = 0 ∧ f ≠ 0) from ⟨h0, h1⟩)
      have g1 : (f != 0) = true := by rw [bne_iff_ne]; exact h1
      subst h0
      go_enter Try.func54, Try.ntmps54
      go_wp2
      go_end0
      refine ⟨rfl, ?_, ((Kp.refl (Jb B) w).set 1 _).set 0 _⟩
      have hf := HN.out.2
      simp only [failS, failE, ne_eq, hf, not_false_eq_true, and_true, if_true]
      exact (Blk.set HB.out 1 (.int .i64 f)).set 0 (.string (st []))
  · have HN := hid (show ¬ (e = 0 ∧ f ≠ 0) by omega)
    have g1 : (e == 0) = false := by rw [beq_eq_false_iff_ne]; exact h0
    go_enter Try.func54, Try.ntmps54
    go_wp2
    go_end0
    exact ⟨rfl, by unfold failS failE; rw [if_neg HN.out, if_neg HN.out]; exact HB.out, Kp.refl _ _⟩
set_option maxRecDepth 100000 in
set_option maxHeartbeats 400000 in
theorem refi_fixed (B : Nat) (zs : List Int) (e n : Int) (w : World) (h : RefAt w B zs e) :
    Calls Try.prog 53 #[.pointer (some ⟨B, 0, none⟩), .int .i64 n] w fun r w' => r = .returned (.string (st (fixN zs e n).1)) ∧ RefAt w' B (fixN zs e n).2.1 (fixN zs e n).2.2 ∧ Kp (Jb B) w w' := by
  have c1 := Blk.cell h 1
  have c0 := Blk.cell h 0
  simp only [List.getElem?_cons_zero, List.getElem?_cons_succ] at c0 c1
  have f0 := Blk.frozen h 0
  have H := hid h
  clear h
  have hst := st_size zs
  obtain ⟨R, hR⟩ : ∃ R, R = fixN zs e n := ⟨_, rfl⟩
  rw [← hR]
  have HR := hid hR
  clear hR
  unfold fixN at HR
  by_cases he : e = 0
  · subst he
    have HR2 := HR.out.trans (if_neg (fun h => h rfl))
    by_cases hn : n < 0
    · rw [if_pos hn] at HR2
      subst HR2
      clear HR
      go_enter Try.func53, Try.ntmps53
      go_wp2_with fail
      refine (refi_fail B zs 0 2 _ H.out).mono ?_
      rintro r w2 ⟨rfl, h2, k2⟩
      have H2 := hid h2
      have K2 := hid k2
      clear h2 k2
      go_wp2
      go_ret
      exact ⟨rfl, H2.out, K2.out⟩
    · rw [if_neg hn] at HR2
      by_cases hl : (zs.length : Int) < n
      · rw [if_pos hl] at HR2
        subst HR2
        clear HR
        go_enter Try.func53, Try.ntmps53
        go_wp2_with fail
        refine (refi_fail B zs 0 10 _ H.out).mono ?_
        rintro r w2 ⟨rfl, h2, k2⟩
        have H2 := hid h2
        have K2 := hid k2
        clear h2 k2
        go_wp2
        go_ret
        exact ⟨rfl, H2.out, K2.out⟩
      · rw [if_neg hl] at HR2
        subst HR2
        clear HR
        obtain ⟨m, rfl⟩ := Int.eq_ofNat_of_zero_le (show 0 ≤ n by omega)
        rw [Int.toNat_natCast]
        have e1 := st_take zs m
        have e2 := st_extract zs m
        have E1 := hid e1
        have E2 := hid e2
        clear e1 e2
        go_enter Try.func53, Try.ntmps53
        go_wp2
        go_ret
        rw [E1.out, E2.out]
        exact ⟨rfl, Blk.set H.out 0 _, (Kp.refl _ _).set 0 _⟩
  · have HR2 := HR.out.trans (if_pos he)
    subst HR2
    clear HR
    have g1 : (e != 0) = true := by rw [bne_iff_ne]; exact he
    clear he
    go_enter Try.func53, Try.ntmps53
    go_wp2
    go_ret
    exact ⟨rfl, H.out, Kp.refl _ _⟩
theorem be_inj : ∀ (xs ys : List Int), IsBytes xs → IsBytes ys → xs.length = ys.length → beN xs = beN ys → xs = ys
  | [], [], _, _, _, _ => rfl
  | [], _ :: _, _, _, h, _ => by simp at h
  | _ :: _, [], _, _, h, _ => by simp at h
  | a :: x, b :: y, hx, hy, h, e => by
    have hl : x.length = y.length := by simpa using h
    have rx := beN_range x hx.tail
    have ry := beN_range y hy.tail
    have ih := be_inj x y hx.tail hy.tail hl
    rw [beN_cons, beN_cons, ← hl] at e
    rw [← hl] at ry
    obtain ⟨Q, hQ⟩ : ∃ Q : Int, Q = 256 ^ x.length := ⟨_, rfl⟩
    rw [← hQ] at rx ry e
    rcases Int.lt_trichotomy a b with h1 | h1 | h1
    · have : (a + 1) * Q ≤ b * Q := Int.mul_le_mul_of_nonneg_right (by omega) (by omega)
      rw [Int.add_mul] at this
      omega
    · subst h1
      rw [ih (by omega)]
    · have : (b + 1) * Q ≤ a * Q := Int.mul_le_mul_of_nonneg_right (by omega) (by omega)
      rw [Int.add_mul] at this
      omega
theorem first_back (zs : List Int) (hz : IsBytes zs) (k : Nat) (hk : zs[0]?.getD 0 = 247 + (k : Int)) (k1 : 1 ≤ k) (hl : 1 + k ≤ zs.length) :
    (numBytes (beTo (zs.drop 1) k) = zs.take (1 + k)) ↔ sizeN (beTo (zs.drop 1) k) = 1 + k := by
  have h0 := hz 0
  rw [hk] at h0
  have hr := beTo_range (zs.drop 1) k
  have hb := beTo_num (zs.drop 1) (hz.drop 1) k (by omega) (by rw [List.length_drop]; omega)
  obtain ⟨U, hU⟩ : ∃ U, U = beTo (zs.drop 1) k := ⟨_, rfl⟩
  rw [← hU] at hr hb ⊢
  refine ⟨fun e => ?_, fun e => ?_⟩
  · rw [← numBytes_size, e, List.length_take]; omega
  · rcases numBytes_head U hr.1 hr.2 with ⟨hu, eu⟩ | ⟨hu, ku, eu, lu, mu⟩
    · rw [← numBytes_size, eu] at e
      simp at e
      omega
    · have hs := e
      rw [← numBytes_size, eu, List.length_cons, digits_length] at hs
      have hkk : kOf U = k := by omega
      have ht : zs.take (1 + k) = (247 + (k : Int)) :: (zs.drop 1).take k := by
        cases zs with
        | nil => simp at hl
        | cons a r =>
          simp only [List.getElem?_cons_zero, Option.getD_some] at hk
          rw [Nat.add_comm, List.take_succ_cons, hk]
          rfl
      rw [eu, ht, hkk]
      congr 1
      have hd := digits_all U hr.1 (kOf U) mu
      rw [hkk] at hd
      rw [hb] at hd
      exact be_inj _ _ (digits_bytes _ _ _) ((hz.drop 1).take k) (by rw [digits_length, List.length_take, List.length_drop]; omega) (by rw [← hb]; rw [← hb] at hd; exact hd)
theorem sl_h (zs : List Int) (n : Nat) (hn : n ≤ zs.length) (w : World) : (Instr.slice 9 (.string (st zs)) none (some (.int .i64 (n : Int))) none).run Try.prog w = .ok (.string (st (zs.take n))) w := by
  rw [run_slice_string_h (P := Try.prog) w 9 (st zs) Try.underlying9 .i64 n (by omega) (by rw [st_size]; omega), Int.toNat_natCast, st_take]
theorem sl_l (zs : List Int) (n : Nat) (hn : n ≤ zs.length) (w : World) : (Instr.slice 9 (.string (st zs)) (some (.int .i64 (n : Int))) none none).run Try.prog w = .ok (.string (st (zs.drop n))) w := by
  rw [run_slice_string_l (P := Try.prog) w 9 (st zs) Try.underlying9 .i64 n (by omega) (by rw [st_size]; omega), Int.toNat_natCast, st_size, st_extract]
def RfR (ys : List Int) (k : Nat) (u i : Value) : Prop := ∃ j : Nat, j ≤ k ∧ i = .int .i64 ((j : Int) + 1) ∧ u = .int .u64 (beTo ys j)
theorem beTo_next (ys : List Int) (hy : IsBytes ys) (j : Nat) (hj : j < 8) (hl : j < ys.length) : IntKind.u64.wrap (IntKind.u64.wrap (beTo ys j * 256) + (ys[j]?.getD 0)) = beTo ys (j + 1) := by
  have hr := beN_range (ys.take j) (hy.take j)
  rw [List.length_take, Nat.min_eq_left (by omega), ← beTo_num ys hy j (by omega) (by omega)] at hr
  have hp : (256 : Int) ^ j ≤ 256 ^ 7 := by
    rw [pow_nat, pow_nat]
    have := Nat.pow_le_pow_right (n := 2) (by decide) (show 8 * j ≤ 8 * 7 by omega)
    omega
  have hq : (256 : Int) ^ 7 = 72057594037927936 := by decide
  have hx := hy j
  show _ = bits .or .u64 (IntKind.u64.wrap (beTo ys j * 256)) (ys[j]?.getD 0)
  rw [or_step _ _ hr.1 (by omega) hx.1 hx.2, IntKind.wrap_u64, IntKind.wrap_u64]
  omega
set_option maxRecDepth 100000 in
set_option maxHeartbeats 1000000 in
theorem refi_number (B : Nat) (zs : List Int) (e most : Int) (w : World) (h : RefAt w B zs e) (hz : IsBytes zs) :
    Calls Try.prog 51 #[.pointer (some ⟨B, 0, none⟩), .int .u64 most] w fun r w' => r = .returned (.int .u64 (readN zs e most).1) ∧ RefAt w' B (readN zs e most).2.1 (readN zs e most).2.2 ∧ Kp (Jb B) w w' := by
  have c1 := Blk.cell h 1
  have c0 := Blk.cell h 0
  simp only [List.getElem?_cons_zero, List.getElem?_cons_succ] at c0 c1
  have f0 := Blk.frozen h 0
  have H := hid h
  have HZ := hid hz
  clear h hz
  have hst := st_size zs
  obtain ⟨R, hR⟩ : ∃ R, R = readN zs e most := ⟨_, rfl⟩
  rw [← hR]
  have HR := hid hR
  clear hR
  unfold readN at HR
  by_cases he : e = 0
  · subst he
    have HR2 := HR.out.trans (if_neg (fun h => h rfl))
    unfold firstOf at HR2
    clear HR
    by_cases hl0 : zs.length = 0
    · rw [if_pos hl0] at HR2
      subst HR2
      have hl1 : (zs.length : Int) = 0 := by omega
      clear hl0
      go_enter Try.func51, Try.ntmps51
      go_wp2_with fail
      refine (refi_fail B zs 0 10 _ H.out).mono ?_
      rintro r w2 ⟨rfl, h2, k2⟩
      have H2 := hid h2
      have K2 := hid k2
      clear h2 k2
      go_wp2
      go_ret
      exact ⟨rfl, H2.out, K2.out⟩
    · rw [if_neg hl0] at HR2
      have hi0 : ∀ w, (Instr.index 9 (.string (st zs)) (.int .i64 0)).run Try.prog w = .ok (.int .u8 (zs[0]?.getD 0)) w := fun w => idx_any zs w HZ.out 0 (by omega)
      have hx := HZ.out 0
      have hpos : (0 : Int) < (zs.length : Int) := by omega
      have hpos2 : ¬ (zs.length : Int) = 0 := by omega
      have hpos3 : ¬ (zs.length : Int) < 1 := by omega
      have hw1 : IntKind.i64.wrap 1 = 1 := by decide
      by_cases hle : zs[0]?.getD 0 ≤ 247
      · rw [if_pos hle] at HR2
        obtain ⟨z, hzz⟩ : ∃ z, z = zs[0]?.getD 0 := ⟨_, rfl⟩
        rw [← hzz] at HR2 hi0 hx hle
        have HN : Hid (numBytes z = zs.take 1) := by
          unfold Hid numBytes
          rw [if_pos hle]
          cases zs with
          | nil => simp at hl0
          | cons a r => simpa using hzz
        simp only [ne_eq, not_true_eq_false, if_false] at HR2
        have HR := hid HR2
        clear HR2 hl0
        obtain ⟨S, hS⟩ : ∃ S, S = st zs := ⟨_, rfl⟩
        have H : Hid (Blk w B 55 [.string S, .int .i64 0]) := by rw [hS]; exact H
        have HS := hid hS
        have s1 : ∀ w, (Instr.slice 9 (.string S) none (some (.int .i64 1)) none).run Try.prog w = .ok (.string (st (zs.take 1))) w := fun w => by rw [hS]; exact sl_h zs 1 (by omega) w
        have s2 : ∀ w, (Instr.slice 9 (.string S) (some (.int .i64 1)) none none).run Try.prog w = .ok (.string (st (zs.drop 1))) w := fun w => by rw [hS]; exact sl_l zs 1 (by omega) w
        have CN : Hid (∀ w, Calls Try.prog 46 #[.int .u64 z] w fun e w' => e = .returned (.string (st (zs.take 1))) ∧ Kp Nb w w') := fun w => by rw [← HN.out]; exact refn_number z w (by omega) (by omega)
        obtain ⟨T, hT⟩ : ∃ T, T = st (zs.take 1) := ⟨_, rfl⟩
        rw [← hT] at s1 CN
        rw [← hS] at c0 hst hi0
        clear hS hT hzz
        go_enter Try.func51, Try.ntmps51
        go_wp2
        refine wp_loop_rounds 1 ?_
        rw [rounds_succ]
        go_wp2_with fail
        go_region_held3 (fun w' => w'.cell? ⟨B, 0, none⟩ = some (.string S))
          (first | exact c0 | exact Kp.cell kh.out c0 (fun h => h))
          (first
            | (go_at_call 46; refine (CN.out _).mono ?_; rintro e wy ⟨rfl, k'⟩; have kh := hid (Kp.trans (S := Nb) (Kp.drew (Kp.refl Nb w)) k' (fun _ _ h => h)); clear k'))
        have HY := hid (Blk.kept H.out kh.out (fun h => h))
        have KY := hid (kh.out.mono (S' := Jb B) (fun _ _ h => absurd h (fun h => h)))
        have d0 := Blk.cell HY.out 0
        simp only [List.getElem?_cons_zero] at d0
        have g0 := Blk.frozen HY.out 0
        by_cases hm : most < z
        · have HR2 := HR.out
          rw [if_pos hm] at HR2
          subst HR2
          clear HR
          have HY' : Hid (RefAt wy B zs 0) := by rw [HS.out] at HY; exact HY
          go_wp2_with fail
          refine (refi_fail B zs 0 12 _ HY'.out).mono ?_
          rintro r w2 ⟨rfl, h2, k2⟩
          have H2 := hid h2
          have K2 := hid (KY.out.trans k2 (fun _ _ h => h))
          clear h2 k2
          go_wp2
          go_ret
          exact ⟨rfl, H2.out, K2.out⟩
        · have HR2 := HR.out
          rw [if_neg hm] at HR2
          subst HR2
          clear HR
          go_wp2
          go_ret
          exact ⟨rfl, Blk.set HY.out 0 _, KY.out.set 0 _⟩
      · obtain ⟨k, hk⟩ : ∃ k : Nat, zs[0]?.getD 0 = 247 + (k : Int) := ⟨(zs[0]?.getD 0 - 247).toNat, by omega⟩
        have ek : (247 + (k : Int) - 247).toNat = k := by omega
        rw [if_neg hle, hk, ek] at HR2
        rw [hk] at hi0 hx hle
        have h1k : 1 ≤ k := by omega
        have h8k : k ≤ 8 := by omega
        by_cases hlt : zs.length < 1 + k
        · rw [if_pos hlt] at HR2
          subst HR2
          clear hk
          go_enter Try.func51, Try.ntmps51
          go_wp2_with fail
          refine (refi_fail B zs 0 10 _ H.out).mono ?_
          rintro r w2 ⟨rfl, h2, k2⟩
          have H2 := hid h2
          have K2 := hid k2
          clear h2 k2
          go_wp2
          go_ret
          exact ⟨rfl, H2.out, K2.out⟩
        · rw [if_neg hlt] at HR2
          have HFB := hid (first_back zs HZ.out k hk h1k (by omega))
          obtain ⟨ys, hys⟩ : ∃ ys, ys = zs.drop 1 := ⟨_, rfl⟩
          have hyl : ys.length = zs.length - 1 := by rw [hys, List.length_drop]
          have HYB : Hid (IsBytes ys) := by rw [hys]; exact HZ.out.drop 1
          have HYS := hid hys
          rw [← hys] at HR2 HFB
          have HR := hid HR2
          obtain ⟨S, hS⟩ : ∃ S, S = st zs := ⟨_, rfl⟩
          have H : Hid (Blk w B 55 [.string S, .int .i64 0]) := by rw [hS]; exact H
          have HS := hid hS
          have s1 : ∀ w, (Instr.slice 9 (.string S) none (some (.int .i64 (1 + (247 + (k : Int) - 247)))) none).run Try.prog w = .ok (.string (st (zs.take (1 + k)))) w := fun w => by rw [hS, show (1 + (247 + (k : Int) - 247)) = ((1 + k : Nat) : Int) by omega]; exact sl_h zs (1 + k) (by omega) w
          have s2 : ∀ w, (Instr.slice 9 (.string S) (some (.int .i64 (1 + (247 + (k : Int) - 247)))) none none).run Try.prog w = .ok (.string (st (zs.drop (1 + k)))) w := fun w => by rw [hS, show (1 + (247 + (k : Int) - 247)) = ((1 + k : Nat) : Int) by omega]; exact sl_l zs (1 + k) (by omega) w
          have hxi : ∀ (j : Nat), j < k → ∀ w, (Instr.index 9 (.string S) (.int .i64 ((j : Int) + 1))).run Try.prog w = .ok (.int .u8 (ys[j]?.getD 0)) w := fun j hj w => by
            have := idx_any zs w HZ.out (1 + j) (by omega)
            rw [hS, hys, List.getElem?_drop, show ((j : Int) + 1) = ((1 + j : Nat) : Int) by omega]
            exact this
          have HXI := hid hxi
          obtain ⟨T, hT⟩ : ∃ T, T = st (zs.take (1 + k)) := ⟨_, rfl⟩
          have HT := hid hT
          rw [← hT] at s1
          rw [← hS] at c0 hst hi0
          have hwk : IntKind.i64.wrap (1 + (247 + (k : Int) - 247)) = 1 + (247 + (k : Int) - 247) := IntWalk.i64_in _ (by omega)
          have hlk : ¬ (zs.length : Int) < 1 + (247 + (k : Int) - 247) := by omega
          have hkk : ¬ (247 + (k : Int) - 247) = 0 := by omega
          clear hS hys hk hlt HR2 hxi hT
          go_enter Try.func51, Try.ntmps51
          go_wp2
          go_loop [6, 7] (RfR ys k) (fun _ i => k + 1 - (intOf i).toNat)
          case atStart => exact ⟨0, Nat.zero_le _, rfl, rfl⟩
          case round =>
            obtain ⟨j, hj, rfl, rfl⟩ := hrel
            by_cases hjk : j < k
            · have hxj := HXI.out j hjk
              have hyj := HYB.out j
              have hnext := beTo_next ys HYB.out j (by omega) (by omega)
              obtain ⟨X, hX⟩ : ∃ X, X = ys[j]?.getD 0 := ⟨_, rfl⟩
              rw [← hX] at hxj hyj hnext
              clear hX
              have HRel := hid (show RfR ys k (.int .u64 (IntKind.u64.wrap (IntKind.u64.wrap (beTo ys j * 256) + X))) (.int .i64 ((j : Int) + 1 + 1)) from ⟨j + 1, by omega, by go_num, by rw [hnext]⟩)
              have hbr := beTo_range ys j
              have gj : (j : Int) + 1 ≤ 247 + (k : Int) - 247 := by omega
              clear hnext
              go_wp2
              exact ⟨HRel.out, by simp [intOf]; omega⟩
            · obtain rfl : j = k := by omega
              have hbr := beTo_range ys j
              have gj : ¬ ((j : Int) + 1 ≤ 247 + (j : Int) - 247) := by omega
              obtain ⟨U, hU⟩ : ∃ U, U = beTo ys j := ⟨_, rfl⟩
              rw [← hU] at hbr HR HFB ⊢
              by_cases hs : sizeN U = 1 + j
              · have HR2 := HR.out
                rw [if_pos hs] at HR2
                simp only [ne_eq, not_true_eq_false, if_false] at HR2
                have CN : Hid (∀ w, Calls Try.prog 46 #[.int .u64 U] w fun e w' => e = .returned (.string T) ∧ Kp Nb w w') := fun w => by rw [HT.out, ← HFB.out.2 hs]; exact refn_number U w hbr.1 hbr.2
                clear hU HFB HXI HYB hi0
                go_wp2_with fail
                go_region_held3 (fun w' => w'.cell? ⟨B, 0, none⟩ = some (.string S))
                  (first | exact c0 | exact Kp.cell kh.out c0 (fun h => h))
                  (first
                    | (go_at_call 46; refine (CN.out _).mono ?_; rintro e wy ⟨rfl, k'⟩; have kh := hid (Kp.trans (S := Nb) (Kp.drew (Kp.refl Nb w)) k' (fun _ _ h => h)); clear k'))
                have HY := hid (Blk.kept H.out kh.out (fun h => h))
                have KY := hid (kh.out.mono (S' := Jb B) (fun _ _ h => absurd h (fun h => h)))
                have d0 := Blk.cell HY.out 0
                simp only [List.getElem?_cons_zero] at d0
                have g0 := Blk.frozen HY.out 0
                by_cases hm : most < U
                · rw [if_pos hm] at HR2
                  subst HR2
                  clear HR
                  have HY' : Hid (RefAt wy B zs 0) := by rw [HS.out] at HY; exact HY
                  go_wp2_with fail
                  refine (refi_fail B zs 0 12 _ HY'.out).mono ?_
                  rintro r w2 ⟨rfl, h2, k2⟩
                  have H2 := hid h2
                  have K2 := hid (KY.out.trans k2 (fun _ _ h => h))
                  clear h2 k2
                  go_wp2
                  go_ret
                  exact ⟨rfl, H2.out, K2.out⟩
                · rw [if_neg hm] at HR2
                  subst HR2
                  clear HR
                  go_wp2
                  go_ret
                  exact ⟨rfl, Blk.set HY.out 0 _, KY.out.set 0 _⟩
              · have HR2 := HR.out
                rw [if_neg hs] at HR2
                subst HR2
                have hne : ¬ numBytes U = zs.take (1 + j) := fun e => hs (HFB.out.1 e)
                have hxx : ((st (numBytes U)).toList == T.toList) = false := by
                  rw [HT.out, st_beq _ _ (numBytes_bytes U hbr.1 hbr.2) (HZ.out.take _), decide_eq_false hne]
                have CN : Hid (∀ w, Calls Try.prog 46 #[.int .u64 U] w fun e w' => e = .returned (.string (st (numBytes U))) ∧ Kp Nb w w') := fun w => refn_number U w hbr.1 hbr.2
                obtain ⟨SU, hSU⟩ : ∃ SU, SU = st (numBytes U) := ⟨_, rfl⟩
                rw [← hSU] at hxx CN
                clear hU HFB HXI HYB hi0 HR hSU hne hs
                go_wp2_with fail
                go_region_held3 (fun w' => w'.cell? ⟨B, 0, none⟩ = some (.string S))
                  (first | exact c0 | exact Kp.cell kh.out c0 (fun h => h))
                  (first
                    | (go_at_call 46; refine (CN.out _).mono ?_; rintro e wy ⟨rfl, k'⟩; have kh := hid (Kp.trans (S := Nb) (Kp.drew (Kp.refl Nb w)) k' (fun _ _ h => h)); clear k'))
                have HY := hid (Blk.kept H.out kh.out (fun h => h))
                have KY := hid (kh.out.mono (S' := Jb B) (fun _ _ h => absurd h (fun h => h)))
                have HY' : Hid (RefAt wy B zs 0) := by rw [HS.out] at HY; exact HY
                go_wp2_with fail
                refine (refi_fail B zs 0 11 _ HY'.out).mono ?_
                rintro r w2 ⟨rfl, h2, k2⟩
                have H2 := hid h2
                have K2 := hid (KY.out.trans k2 (fun _ _ h => h))
                clear h2 k2
                go_wp2
                go_ret
                exact ⟨rfl, H2.out, K2.out⟩
  · have HR2 := HR.out.trans (if_pos he)
    subst HR2
    clear HR
    have g1 : (e != 0) = true := by rw [bne_iff_ne]; exact he
    clear he
    go_enter Try.func51, Try.ntmps51
    go_wp2
    go_ret
    exact ⟨rfl, H.out, Kp.refl _ _⟩
end

end Go.Proofs.Ytijlmfmpfjjlpaa
