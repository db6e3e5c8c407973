/-
  Layer 2: plain facts on numbers as bytes: read again, and in order. Nothing is walked here. No condition.
  Small facts for walks with eyes and pens. No condition.
  Walks of the document's own answer for layer 2: Zig, Zag, Number, Text. Conditions: what numbers of these types are; fewer than 2^62 bytes.
  Walks of the document's own answer for layer 2: the eye: Fail, End, Fixed, Number, Text. Conditions: what numbers of these types are; fewer than 2^62 bytes.
  Layer 2: the eye's walks once more, for any set of blocks S (the eye's among them) in which the bytes do not lie: so that what is written elsewhere in S leaves the eye's bytes alone. Conditions: as in PenA to PenC.
-/
import Derived.Test.YtpgiinogfmhfiaaPenD
import Derived.Test.YtpgiinogfmhfiaaRefB
import Derived.Test.YtpgiinogfmhfiaaJoined
import Derived.Test.YtpgiinogfmhfiaaPkE
import Derived.Test.YtpgiinogfmhfiaaRefH
import Derived.Deep.RegionHeld3
import Derived.Test.YtpgiinogfmhfiaaPenC
namespace Go.Proofs.Ytpgiinogfmhfiaa
open Go.RowKit

theorem bl_bounds : ∀ (f x : Nat), x < 2 ^ f → x ≠ 0 → 1 ≤ Lib.bitLenAux f x ∧ 2 ^ (Lib.bitLenAux f x - 1) ≤ x ∧ x < 2 ^ Lib.bitLenAux f x
  | 0, x, h, h0 => by simp at h; omega
  | f + 1, x, h, h0 => by
    unfold Lib.bitLenAux
    rw [if_neg h0]
    by_cases h2 : x / 2 = 0
    · have hx : x = 1 := by omega
      subst hx
      have e : Lib.bitLenAux f (1 / 2) = 0 := by
        cases f with
        | zero => rfl
        | succ f => unfold Lib.bitLenAux; rfl
      rw [e]
      decide
    · have ih := bl_bounds f (x / 2) (by rw [Nat.pow_succ] at h; omega) h2
      obtain ⟨i1, i2, i3⟩ := ih
      refine ⟨by omega, ?_, ?_⟩
      · have e : 1 + Lib.bitLenAux f (x / 2) - 1 = (Lib.bitLenAux f (x / 2) - 1) + 1 := by omega
        rw [e, Nat.pow_succ]
        omega
      · rw [Nat.add_comm, Nat.pow_succ]
        omega
theorem bitLen_bounds (x : Nat) (h : x < 18446744073709551616) (h0 : x ≠ 0) : 1 ≤ Lib.bitLen x ∧ 2 ^ (Lib.bitLen x - 1) ≤ x ∧ x < 2 ^ Lib.bitLen x := bl_bounds 64 x h h0

theorem kOf_bounds (u : Int) (h0 : 0 < u) (h1 : u < 18446744073709551616) : 1 ≤ kOf u ∧ (2 : Int) ^ (8 * (kOf u - 1)) ≤ u ∧ u < 2 ^ (8 * kOf u) := by
  obtain ⟨U, rfl⟩ := Int.eq_ofNat_of_zero_le (Int.le_of_lt h0)
  have hb := bitLen_bounds U (by omega) (by omega)
  unfold kOf
  rw [Int.toNat_natCast]
  obtain ⟨L, hL⟩ : ∃ L, L = Lib.bitLen U := ⟨_, rfl⟩
  rw [← hL] at hb ⊢
  obtain ⟨b1, b2, b3⟩ := hb
  have e1 : 2 ^ (8 * ((L + 7) / 8 - 1)) ≤ 2 ^ (L - 1) := Nat.pow_le_pow_right (by decide) (by omega)
  have e2 : 2 ^ L ≤ 2 ^ (8 * ((L + 7) / 8)) := Nat.pow_le_pow_right (by decide) (by omega)
  refine ⟨by omega, ?_, ?_⟩
  · have : (((2 ^ (8 * ((L + 7) / 8 - 1)) : Nat)) : Int) ≤ (U : Int) := by omega
    rw [Int.natCast_pow] at this
    exact this
  · have : (U : Int) < (((2 ^ (8 * ((L + 7) / 8)) : Nat)) : Int) := by omega
    rw [Int.natCast_pow] at this
    exact this

/-- A number of bytes, the greatest first. -/
def beN (xs : List Int) : Int := xs.foldl (fun a x => a * 256 + x) 0
theorem beN_snoc (xs : List Int) (x : Int) : beN (xs ++ [x]) = beN xs * 256 + x := by unfold beN; rw [List.foldl_append]; rfl
theorem beN_acc (xs : List Int) : ∀ a : Int, xs.foldl (fun a x => a * 256 + x) a = a * 256 ^ xs.length + beN xs := by
  induction xs with
  | nil => intro a; simp [beN]
  | cons x r ih =>
    intro a
    show r.foldl _ (a * 256 + x) = _
    have h2 : beN (x :: r) = (0 * 256 + x) * 256 ^ r.length + beN r := by show r.foldl _ (0 * 256 + x) = _; rw [ih]
    rw [ih, h2, List.length_cons, Int.pow_succ, Int.add_mul, Int.add_mul, Int.zero_mul, Int.zero_mul, Int.zero_add, Int.mul_comm (256 ^ r.length) 256, ← Int.mul_assoc]
    omega
theorem beN_cons (x : Int) (r : List Int) : beN (x :: r) = x * 256 ^ r.length + beN r := by
  show r.foldl _ (0 * 256 + x) = _
  rw [beN_acc, Int.zero_mul, Int.zero_add]
theorem beN_range (xs : List Int) (h : IsBytes xs) : 0 ≤ beN xs ∧ beN xs < 256 ^ xs.length := by
  induction xs with
  | nil => exact ⟨Int.le_refl _, by decide⟩
  | cons x r ih =>
    have i := ih h.tail
    have hx := h.head
    rw [beN_cons, List.length_cons, Int.pow_succ]
    have hp : (0 : Int) ≤ 256 ^ r.length := Int.pow_nonneg (by decide)
    obtain ⟨Q, hQ⟩ : ∃ Q : Int, Q = 256 ^ r.length := ⟨_, rfl⟩
    rw [← hQ] at i hp ⊢
    have e1 : 0 ≤ x * Q := Int.mul_nonneg hx.1 hp
    have e2 : x * Q ≤ 255 * Q := Int.mul_le_mul_of_nonneg_right (by omega) hp
    omega

theorem div_step (u : Int) (m : Nat) : u / 2 ^ (8 * (m + 1)) * 256 + u / 2 ^ (8 * m) % 256 = u / 2 ^ (8 * m) := by
  have e : (2 : Int) ^ (8 * (m + 1)) = 2 ^ (8 * m) * 256 := by rw [show 8 * (m + 1) = 8 * m + 8 from by omega, Int.pow_add]; rfl
  rw [e, ← Int.ediv_ediv_of_nonneg (Int.pow_nonneg (by decide))]
  omega
theorem digits_num (u : Int) (h0 : 0 ≤ u) (k : Nat) (hk : u < 2 ^ (8 * k)) : ∀ j, j ≤ k → beN (digits u k j) = u / 2 ^ (8 * (k - j))
  | 0, _ => by
    show (0 : Int) = _
    rw [Nat.sub_zero]
    exact (Int.ediv_eq_zero_of_lt h0 hk).symm
  | j + 1, hj => by
    rw [digits_succ, beN_snoc, digits_num u h0 k hk j (by omega)]
    unfold digit
    have e : k - j = (k - (j + 1)) + 1 := by omega
    have e2 : k - 1 - j = k - (j + 1) := by omega
    rw [e, e2]
    exact div_step u _
theorem digits_all (u : Int) (h0 : 0 ≤ u) (k : Nat) (hk : u < 2 ^ (8 * k)) : beN (digits u k k) = u := by
  rw [digits_num u h0 k hk k (Nat.le_refl _), Nat.sub_self]
  exact Int.ediv_one u
theorem digits_length (u : Int) (k j : Nat) : (digits u k j).length = j := by unfold digits; simp
theorem digits_bytes (u : Int) (k j : Nat) : IsBytes (digits u k j) := by
  refine IsBytes.of fun z hz => ?_
  unfold digits at hz
  obtain ⟨i, _, rfl⟩ := List.mem_map.1 hz
  unfold digit
  omega

theorem or_step (A d : Int) (h0 : 0 ≤ A) (h1 : A < 72057594037927936) (d0 : 0 ≤ d) (d1 : d < 256) : bits .or .u64 (IntKind.u64.wrap (A * 256)) d = A * 256 + d := by
  obtain ⟨a, rfl⟩ := Int.eq_ofNat_of_zero_le h0
  obtain ⟨e, rfl⟩ := Int.eq_ofNat_of_zero_le d0
  have hw : IntKind.u64.wrap ((a : Int) * 256) = ((a * 256 : Nat) : Int) := by rw [IntKind.wrap_u64]; omega
  rw [hw, bits_or_u64_nat _ _ (by omega) (by omega)]
  have := Nat.shiftLeft_add_eq_or_of_lt (i := 8) (show e < 2 ^ 8 by omega) a
  rw [Nat.shiftLeft_eq, show (2 : Nat) ^ 8 = 256 from rfl] at this
  omega
theorem beTo_num (zs : List Int) (h : IsBytes zs) : ∀ k, k ≤ 8 → k ≤ zs.length → beTo zs k = beN (zs.take k)
  | 0, _, _ => rfl
  | k + 1, hk, hl => by
    have ih := beTo_num zs h k (by omega) (by omega)
    have hr := beN_range (zs.take k) (h.take k)
    rw [List.length_take, Nat.min_eq_left (by omega)] at hr
    have hp : (256 : Int) ^ k ≤ 256 ^ 7 := by
      rw [pow_nat, pow_nat]
      have := Nat.pow_le_pow_right (n := 2) (by decide) (show 8 * k ≤ 8 * 7 by omega)
      omega
    have hq : (256 : Int) ^ 7 = 72057594037927936 := by decide
    show bits .or .u64 (IntKind.u64.wrap (beTo zs k * 256)) (zs[k]?.getD 0) = _
    rw [ih, take_snoc zs k (by omega), beN_snoc]
    exact or_step _ _ hr.1 (by omega) (h k).1 (h k).2

theorem numBytes_bytes (u : Int) (h0 : 0 ≤ u) (h1 : u < 18446744073709551616) : IsBytes (numBytes u) := by
  unfold numBytes
  split
  · exact IsBytes.one h0 (by omega)
  · have := kOf_le u h1
    exact (IsBytes.one (by omega) (by omega)).append (digits_bytes _ _ _)
theorem numBytes_size (u : Int) : (numBytes u).length = sizeN u := by
  unfold numBytes sizeN
  split
  · rfl
  · rw [List.length_append, digits_length]; rfl
theorem firstOf_numBytes (u : Int) (h0 : 0 ≤ u) (h1 : u < 18446744073709551616) (rest : List Int) (hr : IsBytes rest) : firstOf (numBytes u ++ rest) = (u, sizeN u, 0) := by
  by_cases hu : u ≤ 247
  · have e : numBytes u = [u] := by unfold numBytes; rw [if_pos hu]
    have e2 : sizeN u = 1 := by unfold sizeN; rw [if_pos hu]
    rw [e, e2]
    unfold firstOf
    rw [if_neg (by simp)]
    have e3 : ([u] ++ rest)[0]?.getD 0 = u := rfl
    rw [e3, if_pos hu]
  · obtain ⟨k1, k2, k3⟩ := kOf_bounds u (by omega) h1
    have k8 := kOf_le u h1
    have e : numBytes u = [247 + (kOf u : Int)] ++ digits u (kOf u) (kOf u) := by unfold numBytes; rw [if_neg hu]
    have e2 : sizeN u = 1 + kOf u := by unfold sizeN; rw [if_neg hu]
    rw [e]
    unfold firstOf
    have e3 : ([247 + (kOf u : Int)] ++ digits u (kOf u) (kOf u) ++ rest)[0]?.getD 0 = 247 + (kOf u : Int) := rfl
    have e4 : (247 + (kOf u : Int) - 247).toNat = kOf u := by omega
    have e5 : ([247 + (kOf u : Int)] ++ digits u (kOf u) (kOf u) ++ rest).length = 1 + kOf u + rest.length := by rw [List.length_append, List.length_append, digits_length]; rfl
    have e6 : ([247 + (kOf u : Int)] ++ digits u (kOf u) (kOf u) ++ rest).drop 1 = digits u (kOf u) (kOf u) ++ rest := rfl
    have hb : beTo (digits u (kOf u) (kOf u) ++ rest) (kOf u) = u := by
      rw [beTo_num _ ((digits_bytes _ _ _).append hr) _ k8 (by rw [List.length_append, digits_length]; omega)]
      have : (digits u (kOf u) (kOf u) ++ rest).take (kOf u) = digits u (kOf u) (kOf u) := by
        have := List.take_left (l₁ := digits u (kOf u) (kOf u)) (l₂ := rest)
        rwa [digits_length] at this
      rw [this, digits_all u h0 _ k3]
    rw [e3, e4, e5, e6, hb, if_neg (by omega), if_neg (by omega), if_neg (by omega), if_pos e2, e2]

theorem readN_numBytes (u most : Int) (h0 : 0 ≤ u) (h1 : u < 18446744073709551616) (hm : u ≤ most) (rest : List Int) (hr : IsBytes rest) : readN (numBytes u ++ rest) 0 most = (u, rest, 0) := by
  unfold readN
  rw [firstOf_numBytes u h0 h1 rest hr, if_neg (by simp), if_neg (by simp), if_neg (by show ¬ most < u; omega)]
  show (u, (numBytes u ++ rest).drop (sizeN u), (0 : Int)) = _
  rw [← numBytes_size, List.drop_left]

theorem xor_ones (x : Nat) (h : x < 2 ^ 64) : x ^^^ (2 ^ 64 - 1) = 2 ^ 64 - 1 - x := by rw [Nat.xor_comm]; exact not64 x h
theorem zig_is (n : Int) (h0 : -9223372036854775808 ≤ n) (h1 : n < 9223372036854775808) : zigI n = if n < 0 then -2 * n - 1 else 2 * n := by
  unfold zigI
  by_cases hn : n < 0
  · rw [if_pos hn]
    obtain ⟨m, hm⟩ := Int.eq_ofNat_of_zero_le (show 0 ≤ 18446744073709551616 + 2 * n by omega)
    have e1 : IntKind.u64.wrap (IntKind.u64.wrap n * 2) = (m : Int) := by rw [IntKind.wrap_u64, IntKind.wrap_u64]; omega
    have e2 : IntKind.u64.wrap (n / 9223372036854775808) = ((2 ^ 64 - 1 : Nat) : Int) := by rw [IntKind.wrap_u64]; omega
    rw [e1, e2, bits_xor_u64_nat _ _ (by omega) (by decide), xor_ones m (by omega)]
    omega
  · rw [if_neg hn]
    obtain ⟨m, hm⟩ := Int.eq_ofNat_of_zero_le (show 0 ≤ 2 * n by omega)
    have e1 : IntKind.u64.wrap (IntKind.u64.wrap n * 2) = (m : Int) := by rw [IntKind.wrap_u64, IntKind.wrap_u64]; omega
    have e2 : IntKind.u64.wrap (n / 9223372036854775808) = ((0 : Nat) : Int) := by rw [IntKind.wrap_u64]; omega
    rw [e1, e2, bits_xor_u64_nat _ _ (by omega) (by decide), Nat.xor_zero]
    omega
theorem zag_zig (n : Int) (h0 : -9223372036854775808 ≤ n) (h1 : n < 9223372036854775808) : zagI (zigI n) = n := by
  rw [zig_is n h0 h1]
  unfold zagI
  split <;> split <;> omega
theorem zag_range (u : Int) (h0 : 0 ≤ u) (h1 : u < 18446744073709551616) : -9223372036854775808 ≤ zagI u ∧ zagI u < 9223372036854775808 := by
  unfold zagI
  split <;> omega
theorem zig_zag (u : Int) (h0 : 0 ≤ u) (h1 : u < 18446744073709551616) : zigI (zagI u) = u := by
  have hr := zag_range u h0 h1
  rw [zig_is _ hr.1 hr.2]
  unfold zagI
  split <;> split <;> omega

theorem num_lex : ∀ (xs ys : List Int), IsBytes xs → IsBytes ys → xs.length = ys.length → lexI xs ys = decide (beN xs < beN ys)
  | [], [], _, _, _ => rfl
  | [], _ :: _, _, _, h => by simp at h
  | _ :: _, [], _, _, h => by simp at h
  | a :: x, b :: y, hx, hy, h => by
    have hl : x.length = y.length := by simpa using h
    have ih := num_lex x y hx.tail hy.tail hl
    have rx := beN_range x hx.tail
    have ry := beN_range y hy.tail
    rw [beN_cons, beN_cons, ← hl]
    rw [← hl] at ry
    obtain ⟨Q, hQ⟩ : ∃ Q : Int, Q = 256 ^ x.length := ⟨_, rfl⟩
    rw [← hQ] at rx ry ⊢
    show (decide (a < b) || (a == b && lexI x y)) = _
    rw [ih]
    rcases Int.lt_trichotomy a b with h1 | h1 | h1
    · have : (a + 1) * Q ≤ b * Q := Int.mul_le_mul_of_nonneg_right (by omega) (by omega)
      rw [Int.add_mul] at this
      rw [decide_eq_true h1, Bool.true_or, decide_eq_true (show a * Q + beN x < b * Q + beN y by omega)]
    · subst h1
      rw [decide_eq_false (Int.lt_irrefl a), Bool.false_or, beq_self_eq_true, Bool.true_and]
      exact decide_eq_decide.2 (by omega)
    · have : (b + 1) * Q ≤ a * Q := Int.mul_le_mul_of_nonneg_right (by omega) (by omega)
      rw [Int.add_mul] at this
      rw [decide_eq_false (show ¬ a < b by omega), Bool.false_or, beq_eq_false_iff_ne.2 (show a ≠ b by omega), Bool.false_and, decide_eq_false (show ¬ a * Q + beN x < b * Q + beN y by omega)]

theorem pow_le (a b : Nat) (h : a ≤ b) : (2 : Int) ^ a ≤ 2 ^ b := by
  have := Nat.pow_le_pow_right (n := 2) (by decide) h
  have e1 : ((2 ^ a : Nat) : Int) = 2 ^ a := Int.natCast_pow 2 a
  have e2 : ((2 ^ b : Nat) : Int) = 2 ^ b := Int.natCast_pow 2 b
  omega
theorem numBytes_head (u : Int) (h0 : 0 ≤ u) (h1 : u < 18446744073709551616) :
    (u ≤ 247 ∧ numBytes u = [u]) ∨ (247 < u ∧ 1 ≤ kOf u ∧ numBytes u = (247 + (kOf u : Int)) :: digits u (kOf u) (kOf u) ∧ (2 : Int) ^ (8 * (kOf u - 1)) ≤ u ∧ u < 2 ^ (8 * kOf u)) := by
  by_cases hu : u ≤ 247
  · exact .inl ⟨hu, by unfold numBytes; rw [if_pos hu]⟩
  · obtain ⟨k1, k2, k3⟩ := kOf_bounds u (by omega) h1
    exact .inr ⟨by omega, k1, by unfold numBytes; rw [if_neg hu]; rfl, k2, k3⟩
theorem lex_head (a b : Int) (x y : List Int) (h : a ≠ b) : lexI (a :: x) (b :: y) = decide (a < b) := by
  show (decide (a < b) || (a == b && lexI x y)) = _
  rw [beq_eq_false_iff_ne.2 h, Bool.false_and, Bool.or_false]
theorem order_lt (u v : Int) (h0 : 0 ≤ u) (h1 : u < 18446744073709551616) (g0 : 0 ≤ v) (g1 : v < 18446744073709551616) : lexI (numBytes u) (numBytes v) = decide (u < v) := by
  rcases numBytes_head u h0 h1 with ⟨hu, eu⟩ | ⟨hu, ku, eu, lu, mu⟩ <;> rcases numBytes_head v g0 g1 with ⟨hv, ev⟩ | ⟨hv, kv, ev, lv, mv⟩
  · rw [eu, ev, num_lex [u] [v] (IsBytes.one h0 (by omega)) (IsBytes.one g0 (by omega)) rfl]
    exact decide_eq_decide.2 (by simp [beN])
  · rw [eu, ev, lex_head _ _ _ _ (by omega)]
    exact decide_eq_decide.2 (by omega)
  · rw [eu, ev, lex_head _ _ _ _ (by omega)]
    exact decide_eq_decide.2 (by omega)
  · rw [eu, ev]
    rcases Nat.lt_trichotomy (kOf u) (kOf v) with h | h | h
    · have := pow_le (8 * kOf u) (8 * (kOf v - 1)) (by omega)
      rw [lex_head _ _ _ _ (by omega)]
      exact decide_eq_decide.2 (by omega)
    · show (decide (247 + (kOf u : Int) < 247 + (kOf v : Int)) || (247 + (kOf u : Int) == 247 + (kOf v : Int) && lexI (digits u (kOf u) (kOf u)) (digits v (kOf v) (kOf v)))) = _
      rw [num_lex _ _ (digits_bytes _ _ _) (digits_bytes _ _ _) (by rw [digits_length, digits_length, h]), digits_all u h0 _ mu, digits_all v g0 _ mv, h]
      simp
    · have := pow_le (8 * kOf v) (8 * (kOf u - 1)) (by omega)
      rw [lex_head _ _ _ _ (by omega)]
      exact decide_eq_decide.2 (by omega)
theorem lex_self : ∀ xs : List Int, lexI xs xs = false
  | [] => rfl
  | a :: x => by
    show (decide (a < a) || (a == a && lexI x x)) = false
    rw [lex_self x]; simp
theorem order_eq (u v : Int) (h0 : 0 ≤ u) (h1 : u < 18446744073709551616) (g0 : 0 ≤ v) (g1 : v < 18446744073709551616) : numBytes u = numBytes v ↔ u = v := by
  refine ⟨fun e => ?_, fun e => by rw [e]⟩
  have a1 := order_lt u v h0 h1 g0 g1
  have a2 := order_lt v u g0 g1 h0 h1
  rw [e, lex_self] at a1
  rw [e, lex_self] at a2
  have b1 := of_decide_eq_false a1.symm
  have b2 := of_decide_eq_false a2.symm
  omega
theorem order_begin (u v : Int) (h0 : 0 ≤ u) (h1 : u < 18446744073709551616) (g0 : 0 ≤ v) (g1 : v < 18446744073709551616) (hne : u ≠ v) : (numBytes v).take (numBytes u).length ≠ numBytes u := by
  intro e
  rcases numBytes_head u h0 h1 with ⟨hu, eu⟩ | ⟨hu, ku, eu, lu, mu⟩ <;> rcases numBytes_head v g0 g1 with ⟨hv, ev⟩ | ⟨hv, kv, ev, lv, mv⟩
  · rw [eu, ev] at e
    simp at e
    omega
  · rw [eu, ev] at e
    simp at e
    omega
  · rw [eu, ev] at e
    simp at e
    omega
  · have ek : kOf u = kOf v := by
      rw [eu, ev, List.length_cons, List.take_succ_cons, List.cons.injEq] at e
      omega
    have el : (numBytes u).length = (numBytes v).length := by rw [eu, ev, List.length_cons, List.length_cons, digits_length, digits_length, ek]
    rw [el, List.take_length] at e
    exact hne ((order_eq u v h0 h1 g0 g1).1 e.symm)

end Go.Proofs.Ytpgiinogfmhfiaa

namespace Go.Proofs.Ytpgiinogfmhfiaa
open Go.RowKit

theorem by_far {S S' : Nat → Prop} {w w' : World} {v : Value} {zs : List Int} (h : BySl Nb w v zs) (k : Kp S w w') (hS : ∀ i, i < w.heap.size → ¬ S i) (hS' : ∀ i, i < w.heap.size → ¬ S' i) : BySl S' w' v zs := by
  obtain ⟨hz, ⟨⟨a, c, rfl⟩, rfl⟩ | ⟨blk, off, cap, rfl, hc, hm, hb, -⟩⟩ := h
  · exact ⟨hz, .inl ⟨⟨_, _, rfl⟩, rfl⟩⟩
  · have k' : Kp Nb w w' := k.mono (fun i hi h => hS i hi h)
    refine ⟨hz, .inr ⟨blk, off, cap, rfl, hc, hm, fun i hi => k'.cell (hb i hi) (fun h => h), fun hp => ?_⟩⟩
    have := World.block_lt_of_cell? w _ (hb 0 hp)
    exact hS' _ this

theorem st_take (zs : List Int) (n : Nat) : (st zs).extract 0 n = st (zs.take n) := by
  apply ByteArray.ext
  simp [st, ByteArray.data_extract]

theorem held_mono {P : Program} {md : Region.Mode} {ops : Array Oper} {Q : Exit → Act → World → Prop} {S S' : World → Prop} (h : ∀ w, S' w → S w) :
    ∀ (fuel : Nat) (listed : Array Bool) (a : Act) (w : World), wpAnyH P md ops Q S' fuel listed a w → wpAnyH P md ops Q S fuel listed a w
  | 0, _, _, _, k => k
  | fuel + 1, _, _, _, k => ⟨k.1, fun i hi => wpOp_mono (fun a' w' k' => ⟨h w' k'.1, held_mono h fuel _ a' w' k'.2⟩) (k.2 i hi)⟩

theorem pb_none {B B' : Nat} (h : B' ≠ B) : ¬ Pb B (.slice Option.none 0 0) B' := fun hp => by
  rcases hp with hp | hp
  · exact h hp
  · cases hp

end Go.Proofs.Ytpgiinogfmhfiaa

namespace Go.Proofs.Ytpgiinogfmhfiaa
open Go.RowKit



def RnR (u : Int) (k : Nat) (w : World) (v s : Value) (wr : World) : Prop :=
  ∃ j : Nat, j ≤ k ∧ v = .int .u64 (u / 2 ^ (8 * j)) ∧ s = .string (st ((digits u k k).drop (k - j))) ∧ Hid (Kp Nb w wr)

theorem digits_get (u : Int) (k i : Nat) (hi : i < k) : (digits u k k)[i]?.getD 0 = digit u k i := by
  unfold digits
  simp [hi]
theorem digits_drop (u : Int) (k j : Nat) (hj : j < k) : (digits u k k).drop (k - (j + 1)) = u / 2 ^ (8 * j) % 256 :: (digits u k k).drop (k - j) := by
  have hl := digits_length u k k
  have hd := List.drop_eq_getElem_cons (l := digits u k k) (i := k - (j + 1)) (by omega)
  have hg := digits_get u k (k - (j + 1)) (by omega)
  rw [List.getElem?_eq_getElem (by omega), Option.getD_some] at hg
  rw [hd, hg, show k - (j + 1) + 1 = k - j from by omega]
  unfold digit
  rw [show k - 1 - (k - (j + 1)) = j from by omega]

set_option maxRecDepth 100000 in
set_option maxHeartbeats 400000 in
theorem refn_number (u : Int) (w : World) (h0 : 0 ≤ u) (h1 : u < 18446744073709551616) :
    Calls Try.prog 38 #[.int .u64 u] w fun e w' => e = .returned (.string (st (numBytes u))) ∧ Kp Nb w w' := by
  by_cases hle : u ≤ 247
  · have hc := fun w => conv_one w u h0 (by omega)
    have hn := hid (show numBytes u = [u] by unfold numBytes; rw [if_pos hle])
    go_enter Try.func38, Try.ntmps38
    go_wp2
    go_ret
    exact ⟨by rw [hn.out]; rfl, (Kp.refl Nb w).alloc _⟩
  · obtain ⟨k1, k2, k3⟩ := kOf_bounds u (by omega) h1
    have k8 := kOf_le u h1
    have hn := hid (show numBytes u = [247 + (kOf u : Int)] ++ digits u (kOf u) (kOf u) by unfold numBytes; rw [if_neg hle])
    obtain ⟨k, hk⟩ : ∃ k, k = kOf u := ⟨_, rfl⟩
    rw [← hk] at k1 k2 k3 k8 hn
    have K2 := hid k2
    have K3 := hid k3
    have H0 := hid h0
    clear hk k2 k3
    go_enter Try.func38, Try.ntmps38
    go_wp2
    go_loopw [0, 3] (RnR u k w) (fun v _ _ => (intOf v).toNat)
    case atStart => exact ⟨0, Nat.zero_le _, by simp, by rw [Nat.sub_zero, List.drop_of_length_le (by rw [digits_length]; exact Nat.le_refl _)]; rfl, Kp.refl Nb w⟩
    case round =>
      obtain ⟨j, hj, rfl, rfl, hkp⟩ := hrel
      by_cases hjk : j < k
      · have hp := pow_le (8 * j) (8 * (k - 1)) (by omega)
        have hpp : (0 : Int) < 2 ^ (8 * j) := Int.pow_pos (by decide)
        obtain ⟨X, hX⟩ : ∃ X, X = u / 2 ^ (8 * j) := ⟨_, rfl⟩
        have x0 : 1 ≤ X := by rw [hX]; exact (Int.le_ediv_iff_mul_le hpp).2 (by have := K2.out; omega)
        have x1 : X ≤ u := by rw [hX]; exact Int.ediv_le_self _ H0.out
        have x2 : X < 18446744073709551616 := by omega
        have xn : X / 256 = u / 2 ^ (8 * (j + 1)) := by
          rw [hX, Int.ediv_ediv_of_nonneg (Int.le_of_lt hpp), show (2 : Int) ^ (8 * (j + 1)) = 2 ^ (8 * j) * 256 from by rw [show 8 * (j + 1) = 8 * j + 8 from by omega, Int.pow_add]; rfl]
        have hs := digits_drop u k j hjk
        rw [← hX] at hs ⊢
        have hc := conv_one wr (X % 256) (by omega) (by omega)
        obtain ⟨S, hS⟩ : ∃ S, S = st ((digits u k k).drop (k - j)) := ⟨_, rfl⟩
        have hSz : S.size ≤ 8 := by rw [hS, st_size, List.length_drop, digits_length]; omega
        have hSt : Hid (st [X % 256] ++ S = st ((digits u k k).drop (k - (j + 1)))) := by rw [hs, hS]; unfold Hid; rw [← st_append]; rfl
        have g2 : ¬ (9223372036854775807 < (st [X % 256]).size + S.size) := by rw [st_size]; simp only [List.length_cons, List.length_nil]; omega
        have gx : 0 < X := by omega
        rw [← hS]
        have HR := hid (show RnR u k w (.int .u64 (X / 256)) (.string (st [X % 256] ++ S)) (wr.alloc (.cells #[.int .u8 (X % 256)] 5)) from ⟨j + 1, by omega, by rw [xn], by rw [hSt.out], hkp.out.alloc _⟩)
        have HM := hid (show (intOf (.int .u64 (X / 256))).toNat < (intOf (.int .u64 X)).toNat by simp only [intOf]; omega)
        clear hX hs hS hSt xn hpp hp x1
        go_wp2
        exact ⟨HR.out, HM.out⟩
      · obtain rfl : j = k := by omega
        have hz : u / 2 ^ (8 * j) = 0 := Int.ediv_eq_zero_of_lt H0.out K3.out
        rw [hz, Nat.sub_self, List.drop_zero]
        have hc := conv_one wr (247 + (j : Int)) (by omega) (by omega)
        have hsz : (st (digits u j j)).size = j := by rw [st_size, digits_length]
        have hSt := hid (show st [247 + (j : Int)] ++ st (digits u j j) = st (numBytes u) by rw [hn.out, st_append])
        obtain ⟨S, hS⟩ : ∃ S, S = st (digits u j j) := ⟨_, rfl⟩
        rw [← hS] at hsz hSt ⊢
        have g2 : ¬ (9223372036854775807 < (st [247 + (j : Int)]).size + S.size) := by rw [st_size, hsz]; simp only [List.length_cons, List.length_nil]; omega
        clear hS hz
        go_wp2
        go_ret
        exact ⟨by rw [← hSt.out]; rfl, hkp.out.alloc _⟩


end Go.Proofs.Ytpgiinogfmhfiaa

namespace Go.Proofs.Ytpgiinogfmhfiaa
open Go.RowKit

/-- The document's eye: what is left, the error. -/
def RefAt (w : World) (B : Nat) (zs : List Int) (e : Int) : Prop := Blk w B 53 [.string (st zs), .int .i64 e]
theorem RefAt.kept {S : Nat → Prop} {w w' : World} {B : Nat} {zs : List Int} {e : Int} (h : RefAt w B zs e) (k : Kp S w w') (hS : ¬ S B) : RefAt w' B zs e := Blk.kept h k hS

set_option maxHeartbeats 400000 in
theorem refi_fail (B : Nat) (zs : List Int) (e f : Int) (w : World) (h : RefAt w B zs e) :
    Calls Try.prog 43 #[.pointer (some ⟨B, 0, none⟩), .int .i64 f] w fun r w' => r = .returned (.tuple #[]) ∧ RefAt w' B (failS zs e f) (failE e f) ∧ Kp (Jb B) w w' := by
  have c1 := Blk.cell h 1
  have c0 := Blk.cell h 0
  simp only [List.getElem?_cons_zero, List.getElem?_cons_succ] at c0 c1
  have f0 := Blk.frozen h 0
  have f1 := Blk.frozen h 1
  have HB := hid h
  clear h
  by_cases h0 : e = 0
  · by_cases h1 : f = 0
    · have g1 : (f != 0) = false := by rw [bne_eq_false_iff_eq]; exact h1
      subst h0 h1
      go_enter Try.func43, Try.ntmps43
      go_wp2
      go_end0
      exact ⟨rfl, HB.out, Kp.refl _ _⟩
    · have HN := hid (show (e = 0 ∧ f ≠ 0) from ⟨h0, h1⟩)
      have g1 : (f != 0) = true := by rw [bne_iff_ne]; exact h1
      subst h0
      go_enter Try.func43, Try.ntmps43
      go_wp2
      go_end0
      refine ⟨rfl, ?_, ((Kp.refl (Jb B) w).set 1 _).set 0 _⟩
      have hf := HN.out.2
      simp only [failS, failE, ne_eq, hf, not_false_eq_true, and_true, if_true]
      exact (Blk.set HB.out 1 (.int .i64 f)).set 0 (.string (st []))
  · have HN := hid (show ¬ (e = 0 ∧ f ≠ 0) by omega)
    have g1 : (e == 0) = false := by rw [beq_eq_false_iff_ne]; exact h0
    go_enter Try.func43, Try.ntmps43
    go_wp2
    go_end0
    exact ⟨rfl, by unfold failS failE; rw [if_neg HN.out, if_neg HN.out]; exact HB.out, Kp.refl _ _⟩

theorem st_empty (zs : List Int) : (st zs).toList.isEmpty = decide (zs = []) := by
  rw [st_list]
  cases zs with
  | nil => rfl
  | cons a r => simp

set_option maxRecDepth 100000 in
set_option maxHeartbeats 400000 in
theorem refi_fixed (B : Nat) (zs : List Int) (e n : Int) (w : World) (h : RefAt w B zs e) :
    Calls Try.prog 44 #[.pointer (some ⟨B, 0, none⟩), .int .i64 n] w fun r w' => r = .returned (.string (st (fixN zs e n).1)) ∧ RefAt w' B (fixN zs e n).2.1 (fixN zs e n).2.2 ∧ Kp (Jb B) w w' := by
  have c1 := Blk.cell h 1
  have c0 := Blk.cell h 0
  simp only [List.getElem?_cons_zero, List.getElem?_cons_succ] at c0 c1
  have f0 := Blk.frozen h 0
  have H := hid h
  clear h
  have hst := st_size zs
  obtain ⟨R, hR⟩ : ∃ R, R = fixN zs e n := ⟨_, rfl⟩
  rw [← hR]
  have HR := hid hR
  clear hR
  unfold fixN at HR
  by_cases he : e = 0
  · subst he
    have HR2 := HR.out.trans (if_neg (fun h => h rfl))
    by_cases hn : n < 0
    · rw [if_pos hn] at HR2
      subst HR2
      clear HR
      go_enter Try.func44, Try.ntmps44
      go_wp2_with fail
      refine (refi_fail B zs 0 2 _ H.out).mono ?_
      rintro r w2 ⟨rfl, h2, k2⟩
      have H2 := hid h2
      have K2 := hid k2
      clear h2 k2
      go_wp2
      go_ret
      exact ⟨rfl, H2.out, K2.out⟩
    · rw [if_neg hn] at HR2
      by_cases hl : (zs.length : Int) < n
      · rw [if_pos hl] at HR2
        subst HR2
        clear HR
        go_enter Try.func44, Try.ntmps44
        go_wp2_with fail
        refine (refi_fail B zs 0 10 _ H.out).mono ?_
        rintro r w2 ⟨rfl, h2, k2⟩
        have H2 := hid h2
        have K2 := hid k2
        clear h2 k2
        go_wp2
        go_ret
        exact ⟨rfl, H2.out, K2.out⟩
      · rw [if_neg hl] at HR2
        subst HR2
        clear HR
        obtain ⟨m, rfl⟩ := Int.eq_ofNat_of_zero_le (show 0 ≤ n by omega)
        rw [Int.toNat_natCast]
        have e1 := st_take zs m
        have e2 := st_extract zs m
        have E1 := hid e1
        have E2 := hid e2
        clear e1 e2
        go_enter Try.func44, Try.ntmps44
        go_wp2
        go_ret
        rw [E1.out, E2.out]
        exact ⟨rfl, Blk.set H.out 0 _, (Kp.refl _ _).set 0 _⟩
  · have HR2 := HR.out.trans (if_pos he)
    subst HR2
    clear HR
    have g1 : (e != 0) = true := by rw [bne_iff_ne]; exact he
    clear he
    go_enter Try.func44, Try.ntmps44
    go_wp2
    go_ret
    exact ⟨rfl, H.out, Kp.refl _ _⟩

theorem be_inj : ∀ (xs ys : List Int), IsBytes xs → IsBytes ys → xs.length = ys.length → beN xs = beN ys → xs = ys
  | [], [], _, _, _, _ => rfl
  | [], _ :: _, _, _, h, _ => by simp at h
  | _ :: _, [], _, _, h, _ => by simp at h
  | a :: x, b :: y, hx, hy, h, e => by
    have hl : x.length = y.length := by simpa using h
    have rx := beN_range x hx.tail
    have ry := beN_range y hy.tail
    have ih := be_inj x y hx.tail hy.tail hl
    rw [beN_cons, beN_cons, ← hl] at e
    rw [← hl] at ry
    obtain ⟨Q, hQ⟩ : ∃ Q : Int, Q = 256 ^ x.length := ⟨_, rfl⟩
    rw [← hQ] at rx ry e
    rcases Int.lt_trichotomy a b with h1 | h1 | h1
    · have : (a + 1) * Q ≤ b * Q := Int.mul_le_mul_of_nonneg_right (by omega) (by omega)
      rw [Int.add_mul] at this
      omega
    · subst h1
      rw [ih (by omega)]
    · have : (b + 1) * Q ≤ a * Q := Int.mul_le_mul_of_nonneg_right (by omega) (by omega)
      rw [Int.add_mul] at this
      omega
theorem first_back (zs : List Int) (hz : IsBytes zs) (k : Nat) (hk : zs[0]?.getD 0 = 247 + (k : Int)) (k1 : 1 ≤ k) (hl : 1 + k ≤ zs.length) :
    (numBytes (beTo (zs.drop 1) k) = zs.take (1 + k)) ↔ sizeN (beTo (zs.drop 1) k) = 1 + k := by
  have h0 := hz 0
  rw [hk] at h0
  have hr := beTo_range (zs.drop 1) k
  have hb := beTo_num (zs.drop 1) (hz.drop 1) k (by omega) (by rw [List.length_drop]; omega)
  obtain ⟨U, hU⟩ : ∃ U, U = beTo (zs.drop 1) k := ⟨_, rfl⟩
  rw [← hU] at hr hb ⊢
  refine ⟨fun e => ?_, fun e => ?_⟩
  · rw [← numBytes_size, e, List.length_take]; omega
  · rcases numBytes_head U hr.1 hr.2 with ⟨hu, eu⟩ | ⟨hu, ku, eu, lu, mu⟩
    · rw [← numBytes_size, eu] at e
      simp at e
      omega
    · have hs := e
      rw [← numBytes_size, eu, List.length_cons, digits_length] at hs
      have hkk : kOf U = k := by omega
      have ht : zs.take (1 + k) = (247 + (k : Int)) :: (zs.drop 1).take k := by
        cases zs with
        | nil => simp at hl
        | cons a r =>
          simp only [List.getElem?_cons_zero, Option.getD_some] at hk
          rw [Nat.add_comm, List.take_succ_cons, hk]
          rfl
      rw [eu, ht, hkk]
      congr 1
      have hd := digits_all U hr.1 (kOf U) mu
      rw [hkk] at hd
      rw [hb] at hd
      exact be_inj _ _ (digits_bytes _ _ _) ((hz.drop 1).take k) (by rw [digits_length, List.length_take, List.length_drop]; omega) (by rw [← hb]; rw [← hb] at hd; exact hd)


theorem sl_h (zs : List Int) (n : Nat) (hn : n ≤ zs.length) (w : World) : (Instr.slice 9 (.string (st zs)) none (some (.int .i64 (n : Int))) none).run Try.prog w = .ok (.string (st (zs.take n))) w := by
  rw [run_slice_string_h (P := Try.prog) w 9 (st zs) Try.underlying9 .i64 n (by omega) (by rw [st_size]; omega), Int.toNat_natCast, st_take]
theorem sl_l (zs : List Int) (n : Nat) (hn : n ≤ zs.length) (w : World) : (Instr.slice 9 (.string (st zs)) (some (.int .i64 (n : Int))) none none).run Try.prog w = .ok (.string (st (zs.drop n))) w := by
  rw [run_slice_string_l (P := Try.prog) w 9 (st zs) Try.underlying9 .i64 n (by omega) (by rw [st_size]; omega), Int.toNat_natCast, st_size, st_extract]

def RfR (ys : List Int) (k : Nat) (u i : Value) : Prop := ∃ j : Nat, j ≤ k ∧ i = .int .i64 ((j : Int) + 1) ∧ u = .int .u64 (beTo ys j)

theorem beTo_next (ys : List Int) (hy : IsBytes ys) (j : Nat) (hj : j < 8) (hl : j < ys.length) : IntKind.u64.wrap (IntKind.u64.wrap (beTo ys j * 256) + (ys[j]?.getD 0)) = beTo ys (j + 1) := by
  have hr := beN_range (ys.take j) (hy.take j)
  rw [List.length_take, Nat.min_eq_left (by omega), ← beTo_num ys hy j (by omega) (by omega)] at hr
  have hp : (256 : Int) ^ j ≤ 256 ^ 7 := by
    rw [pow_nat, pow_nat]
    have := Nat.pow_le_pow_right (n := 2) (by decide) (show 8 * j ≤ 8 * 7 by omega)
    omega
  have hq : (256 : Int) ^ 7 = 72057594037927936 := by decide
  have hx := hy j
  show _ = bits .or .u64 (IntKind.u64.wrap (beTo ys j * 256)) (ys[j]?.getD 0)
  rw [or_step _ _ hr.1 (by omega) hx.1 hx.2, IntKind.wrap_u64, IntKind.wrap_u64]
  omega

set_option maxRecDepth 100000 in
set_option maxHeartbeats 1000000 in
theorem refi_number (B : Nat) (zs : List Int) (e most : Int) (w : World) (h : RefAt w B zs e) (hz : IsBytes zs) :
    Calls Try.prog 42 #[.pointer (some ⟨B, 0, none⟩), .int .u64 most] w fun r w' => r = .returned (.int .u64 (readN zs e most).1) ∧ RefAt w' B (readN zs e most).2.1 (readN zs e most).2.2 ∧ Kp (Jb B) w w' := by
  have c1 := Blk.cell h 1
  have c0 := Blk.cell h 0
  simp only [List.getElem?_cons_zero, List.getElem?_cons_succ] at c0 c1
  have f0 := Blk.frozen h 0
  have H := hid h
  have HZ := hid hz
  clear h hz
  have hst := st_size zs
  obtain ⟨R, hR⟩ : ∃ R, R = readN zs e most := ⟨_, rfl⟩
  rw [← hR]
  have HR := hid hR
  clear hR
  unfold readN at HR
  by_cases he : e = 0
  · subst he
    have HR2 := HR.out.trans (if_neg (fun h => h rfl))
    unfold firstOf at HR2
    clear HR
    by_cases hl0 : zs.length = 0
    · rw [if_pos hl0] at HR2
      subst HR2
      have hl1 : (zs.length : Int) = 0 := by omega
      clear hl0
      go_enter Try.func42, Try.ntmps42
      go_wp2_with fail
      refine (refi_fail B zs 0 10 _ H.out).mono ?_
      rintro r w2 ⟨rfl, h2, k2⟩
      have H2 := hid h2
      have K2 := hid k2
      clear h2 k2
      go_wp2
      go_ret
      exact ⟨rfl, H2.out, K2.out⟩
    · rw [if_neg hl0] at HR2
      have hi0 : ∀ w, (Instr.index 9 (.string (st zs)) (.int .i64 0)).run Try.prog w = .ok (.int .u8 (zs[0]?.getD 0)) w := fun w => idx_any zs w HZ.out 0 (by omega)
      have hx := HZ.out 0
      have hpos : (0 : Int) < (zs.length : Int) := by omega
      have hpos2 : ¬ (zs.length : Int) = 0 := by omega
      have hpos3 : ¬ (zs.length : Int) < 1 := by omega
      have hw1 : IntKind.i64.wrap 1 = 1 := by decide
      by_cases hle : zs[0]?.getD 0 ≤ 247
      · rw [if_pos hle] at HR2
        obtain ⟨z, hzz⟩ : ∃ z, z = zs[0]?.getD 0 := ⟨_, rfl⟩
        rw [← hzz] at HR2 hi0 hx hle
        have HN : Hid (numBytes z = zs.take 1) := by
          unfold Hid numBytes
          rw [if_pos hle]
          cases zs with
          | nil => simp at hl0
          | cons a r => simpa using hzz
        simp only [ne_eq, not_true_eq_false, if_false] at HR2
        have HR := hid HR2
        clear HR2 hl0
        obtain ⟨S, hS⟩ : ∃ S, S = st zs := ⟨_, rfl⟩
        have H : Hid (Blk w B 53 [.string S, .int .i64 0]) := by rw [hS]; exact H
        have HS := hid hS
        have s1 : ∀ w, (Instr.slice 9 (.string S) none (some (.int .i64 1)) none).run Try.prog w = .ok (.string (st (zs.take 1))) w := fun w => by rw [hS]; exact sl_h zs 1 (by omega) w
        have s2 : ∀ w, (Instr.slice 9 (.string S) (some (.int .i64 1)) none none).run Try.prog w = .ok (.string (st (zs.drop 1))) w := fun w => by rw [hS]; exact sl_l zs 1 (by omega) w
        have CN : Hid (∀ w, Calls Try.prog 38 #[.int .u64 z] w fun e w' => e = .returned (.string (st (zs.take 1))) ∧ Kp Nb w w') := fun w => by rw [← HN.out]; exact refn_number z w (by omega) (by omega)
        obtain ⟨T, hT⟩ : ∃ T, T = st (zs.take 1) := ⟨_, rfl⟩
        rw [← hT] at s1 CN
        rw [← hS] at c0 hst hi0
        clear hS hT hzz
        go_enter Try.func42, Try.ntmps42
        go_wp2
        refine wp_loop_rounds 1 ?_
        rw [rounds_succ]
        go_wp2_with fail
        go_region_held3 (fun w' => w'.cell? ⟨B, 0, none⟩ = some (.string S))
          (first | exact c0 | exact Kp.cell kh.out c0 (fun h => h))
          (first
            | (go_at_call 38; refine (CN.out _).mono ?_; rintro e wy ⟨rfl, k'⟩; have kh := hid (Kp.trans (S := Nb) (Kp.drew (Kp.refl Nb w)) k' (fun _ _ h => h)); clear k'))
        have HY := hid (Blk.kept H.out kh.out (fun h => h))
        have KY := hid (kh.out.mono (S' := Jb B) (fun _ _ h => absurd h (fun h => h)))
        have d0 := Blk.cell HY.out 0
        simp only [List.getElem?_cons_zero] at d0
        have g0 := Blk.frozen HY.out 0
        by_cases hm : most < z
        · have HR2 := HR.out
          rw [if_pos hm] at HR2
          subst HR2
          clear HR
          have HY' : Hid (RefAt wy B zs 0) := by rw [HS.out] at HY; exact HY
          go_wp2_with fail
          refine (refi_fail B zs 0 12 _ HY'.out).mono ?_
          rintro r w2 ⟨rfl, h2, k2⟩
          have H2 := hid h2
          have K2 := hid (KY.out.trans k2 (fun _ _ h => h))
          clear h2 k2
          go_wp2
          go_ret
          exact ⟨rfl, H2.out, K2.out⟩
        · have HR2 := HR.out
          rw [if_neg hm] at HR2
          subst HR2
          clear HR
          go_wp2
          go_ret
          exact ⟨rfl, Blk.set HY.out 0 _, KY.out.set 0 _⟩
      · obtain ⟨k, hk⟩ : ∃ k : Nat, zs[0]?.getD 0 = 247 + (k : Int) := ⟨(zs[0]?.getD 0 - 247).toNat, by omega⟩
        have ek : (247 + (k : Int) - 247).toNat = k := by omega
        rw [if_neg hle, hk, ek] at HR2
        rw [hk] at hi0 hx hle
        have h1k : 1 ≤ k := by omega
        have h8k : k ≤ 8 := by omega
        by_cases hlt : zs.length < 1 + k
        · rw [if_pos hlt] at HR2
          subst HR2
          clear hk
          go_enter Try.func42, Try.ntmps42
          go_wp2_with fail
          refine (refi_fail B zs 0 10 _ H.out).mono ?_
          rintro r w2 ⟨rfl, h2, k2⟩
          have H2 := hid h2
          have K2 := hid k2
          clear h2 k2
          go_wp2
          go_ret
          exact ⟨rfl, H2.out, K2.out⟩
        · rw [if_neg hlt] at HR2
          have HFB := hid (first_back zs HZ.out k hk h1k (by omega))
          obtain ⟨ys, hys⟩ : ∃ ys, ys = zs.drop 1 := ⟨_, rfl⟩
          have hyl : ys.length = zs.length - 1 := by rw [hys, List.length_drop]
          have HYB : Hid (IsBytes ys) := by rw [hys]; exact HZ.out.drop 1
          have HYS := hid hys
          rw [← hys] at HR2 HFB
          have HR := hid HR2
          obtain ⟨S, hS⟩ : ∃ S, S = st zs := ⟨_, rfl⟩
          have H : Hid (Blk w B 53 [.string S, .int .i64 0]) := by rw [hS]; exact H
          have HS := hid hS
          have s1 : ∀ w, (Instr.slice 9 (.string S) none (some (.int .i64 (1 + (247 + (k : Int) - 247)))) none).run Try.prog w = .ok (.string (st (zs.take (1 + k)))) w := fun w => by rw [hS, show (1 + (247 + (k : Int) - 247)) = ((1 + k : Nat) : Int) by omega]; exact sl_h zs (1 + k) (by omega) w
          have s2 : ∀ w, (Instr.slice 9 (.string S) (some (.int .i64 (1 + (247 + (k : Int) - 247)))) none none).run Try.prog w = .ok (.string (st (zs.drop (1 + k)))) w := fun w => by rw [hS, show (1 + (247 + (k : Int) - 247)) = ((1 + k : Nat) : Int) by omega]; exact sl_l zs (1 + k) (by omega) w
          have hxi : ∀ (j : Nat), j < k → ∀ w, (Instr.index 9 (.string S) (.int .i64 ((j : Int) + 1))).run Try.prog w = .ok (.int .u8 (ys[j]?.getD 0)) w := fun j hj w => by
            have := idx_any zs w HZ.out (1 + j) (by omega)
            rw [hS, hys, List.getElem?_drop, show ((j : Int) + 1) = ((1 + j : Nat) : Int) by omega]
            exact this
          have HXI := hid hxi
          obtain ⟨T, hT⟩ : ∃ T, T = st (zs.take (1 + k)) := ⟨_, rfl⟩
          have HT := hid hT
          rw [← hT] at s1
          rw [← hS] at c0 hst hi0
          have hwk : IntKind.i64.wrap (1 + (247 + (k : Int) - 247)) = 1 + (247 + (k : Int) - 247) := IntWalk.i64_in _ (by omega)
          have hlk : ¬ (zs.length : Int) < 1 + (247 + (k : Int) - 247) := by omega
          have hkk : ¬ (247 + (k : Int) - 247) = 0 := by omega
          clear hS hys hk hlt HR2 hxi hT
          go_enter Try.func42, Try.ntmps42
          go_wp2
          go_loop [6, 7] (RfR ys k) (fun _ i => k + 1 - (intOf i).toNat)
          case atStart => exact ⟨0, Nat.zero_le _, rfl, rfl⟩
          case round =>
            obtain ⟨j, hj, rfl, rfl⟩ := hrel
            by_cases hjk : j < k
            · have hxj := HXI.out j hjk
              have hyj := HYB.out j
              have hnext := beTo_next ys HYB.out j (by omega) (by omega)
              obtain ⟨X, hX⟩ : ∃ X, X = ys[j]?.getD 0 := ⟨_, rfl⟩
              rw [← hX] at hxj hyj hnext
              clear hX
              have HRel := hid (show RfR ys k (.int .u64 (IntKind.u64.wrap (IntKind.u64.wrap (beTo ys j * 256) + X))) (.int .i64 ((j : Int) + 1 + 1)) from ⟨j + 1, by omega, by go_num, by rw [hnext]⟩)
              have hbr := beTo_range ys j
              have gj : (j : Int) + 1 ≤ 247 + (k : Int) - 247 := by omega
              clear hnext
              go_wp2
              exact ⟨HRel.out, by simp [intOf]; omega⟩
            · obtain rfl : j = k := by omega
              have hbr := beTo_range ys j
              have gj : ¬ ((j : Int) + 1 ≤ 247 + (j : Int) - 247) := by omega
              obtain ⟨U, hU⟩ : ∃ U, U = beTo ys j := ⟨_, rfl⟩
              rw [← hU] at hbr HR HFB ⊢
              by_cases hs : sizeN U = 1 + j
              · have HR2 := HR.out
                rw [if_pos hs] at HR2
                simp only [ne_eq, not_true_eq_false, if_false] at HR2
                have CN : Hid (∀ w, Calls Try.prog 38 #[.int .u64 U] w fun e w' => e = .returned (.string T) ∧ Kp Nb w w') := fun w => by rw [HT.out, ← HFB.out.2 hs]; exact refn_number U w hbr.1 hbr.2
                clear hU HFB HXI HYB hi0
                go_wp2_with fail
                go_region_held3 (fun w' => w'.cell? ⟨B, 0, none⟩ = some (.string S))
                  (first | exact c0 | exact Kp.cell kh.out c0 (fun h => h))
                  (first
                    | (go_at_call 38; refine (CN.out _).mono ?_; rintro e wy ⟨rfl, k'⟩; have kh := hid (Kp.trans (S := Nb) (Kp.drew (Kp.refl Nb w)) k' (fun _ _ h => h)); clear k'))
                have HY := hid (Blk.kept H.out kh.out (fun h => h))
                have KY := hid (kh.out.mono (S' := Jb B) (fun _ _ h => absurd h (fun h => h)))
                have d0 := Blk.cell HY.out 0
                simp only [List.getElem?_cons_zero] at d0
                have g0 := Blk.frozen HY.out 0
                by_cases hm : most < U
                · rw [if_pos hm] at HR2
                  subst HR2
                  clear HR
                  have HY' : Hid (RefAt wy B zs 0) := by rw [HS.out] at HY; exact HY
                  go_wp2_with fail
                  refine (refi_fail B zs 0 12 _ HY'.out).mono ?_
                  rintro r w2 ⟨rfl, h2, k2⟩
                  have H2 := hid h2
                  have K2 := hid (KY.out.trans k2 (fun _ _ h => h))
                  clear h2 k2
                  go_wp2
                  go_ret
                  exact ⟨rfl, H2.out, K2.out⟩
                · rw [if_neg hm] at HR2
                  subst HR2
                  clear HR
                  go_wp2
                  go_ret
                  exact ⟨rfl, Blk.set HY.out 0 _, KY.out.set 0 _⟩
              · have HR2 := HR.out
                rw [if_neg hs] at HR2
                subst HR2
                have hne : ¬ numBytes U = zs.take (1 + j) := fun e => hs (HFB.out.1 e)
                have hxx : ((st (numBytes U)).toList == T.toList) = false := by
                  rw [HT.out, st_beq _ _ (numBytes_bytes U hbr.1 hbr.2) (HZ.out.take _), decide_eq_false hne]
                have CN : Hid (∀ w, Calls Try.prog 38 #[.int .u64 U] w fun e w' => e = .returned (.string (st (numBytes U))) ∧ Kp Nb w w') := fun w => refn_number U w hbr.1 hbr.2
                obtain ⟨SU, hSU⟩ : ∃ SU, SU = st (numBytes U) := ⟨_, rfl⟩
                rw [← hSU] at hxx CN
                clear hU HFB HXI HYB hi0 HR hSU hne hs
                go_wp2_with fail
                go_region_held3 (fun w' => w'.cell? ⟨B, 0, none⟩ = some (.string S))
                  (first | exact c0 | exact Kp.cell kh.out c0 (fun h => h))
                  (first
                    | (go_at_call 38; refine (CN.out _).mono ?_; rintro e wy ⟨rfl, k'⟩; have kh := hid (Kp.trans (S := Nb) (Kp.drew (Kp.refl Nb w)) k' (fun _ _ h => h)); clear k'))
                have HY := hid (Blk.kept H.out kh.out (fun h => h))
                have KY := hid (kh.out.mono (S' := Jb B) (fun _ _ h => absurd h (fun h => h)))
                have HY' : Hid (RefAt wy B zs 0) := by rw [HS.out] at HY; exact HY
                go_wp2_with fail
                refine (refi_fail B zs 0 11 _ HY'.out).mono ?_
                rintro r w2 ⟨rfl, h2, k2⟩
                have H2 := hid h2
                have K2 := hid (KY.out.trans k2 (fun _ _ h => h))
                clear h2 k2
                go_wp2
                go_ret
                exact ⟨rfl, H2.out, K2.out⟩
  · have HR2 := HR.out.trans (if_pos he)
    subst HR2
    clear HR
    have g1 : (e != 0) = true := by rw [bne_iff_ne]; exact he
    clear he
    go_enter Try.func42, Try.ntmps42
    go_wp2
    go_ret
    exact ⟨rfl, H.out, Kp.refl _ _⟩



end Go.Proofs.Ytpgiinogfmhfiaa

namespace Go.Proofs.Ytpgiinogfmhfiaa
open Go.RowKit

def EyeOn (S : Nat → Prop) (w : World) (B : Nat) (zs : List Int) (e : Int) : Prop := ∃ v, Blk w B 79 [v, .int .i64 e] ∧ BySl S w v zs
theorem EyeOn.lt {S : Nat → Prop} {w : World} {B : Nat} {zs : List Int} {e : Int} (h : EyeOn S w B zs e) : B < w.heap.size := by obtain ⟨v, hb, _⟩ := h; exact hb.lt
theorem EyeOn.kept {S S' : Nat → Prop} {w w' : World} {B : Nat} {zs : List Int} {e : Int} (h : EyeOn S w B zs e) (k : Kp S' w w') (hB : ¬ S' B) (hS : ∀ i, S' i → S i) : EyeOn S w' B zs e := by
  obtain ⟨v, hb, hv⟩ := h
  exact ⟨v, hb.kept k hB, hv.kept k hS⟩
theorem EyeOn.drew {S : Nat → Prop} {w : World} {B : Nat} {zs : List Int} {e : Int} (h : EyeOn S w B zs e) : EyeOn S w.drew B zs e := h.kept ((Kp.refl Nb w).drew) (fun h => h) (fun _ h => h.elim)
/-- Of blocks that come later the bytes lie in none. -/
theorem EyeOn.of {w : World} {B : Nat} {zs : List Int} {e : Int} (h : EyeAt w B zs e) (N : Nat) (hN : w.heap.size ≤ N) : EyeOn (fun i => i = B ∨ N ≤ i) w B zs e := by
  obtain ⟨v, hb, hy, hv⟩ := h
  refine ⟨v, hb, hy, ?_⟩
  rcases hv with hv | ⟨blk, off, cap, rfl, hc, hm, hat, hS⟩
  · exact .inl hv
  · refine .inr ⟨blk, off, cap, rfl, hc, hm, hat, fun h0 hp => ?_⟩
    rcases hp with hp | hp
    · exact hS h0 hp
    · have := World.block_lt_of_cell? w _ (hat 0 h0)
      dsimp only at this
      omega
theorem EyeOn.at {S : Nat → Prop} {w : World} {B : Nat} {zs : List Int} {e : Int} (h : EyeOn S w B zs e) (hS : ∀ i, Jb B i → S i) : EyeAt w B zs e := by
  obtain ⟨v, hb, hy, hv⟩ := h
  refine ⟨v, hb, hy, ?_⟩
  rcases hv with hv | ⟨blk, off, cap, rfl, hc, hm, hat, h0⟩
  · exact .inl hv
  · exact .inr ⟨blk, off, cap, rfl, hc, hm, hat, fun h1 hp => h0 h1 (hS _ hp)⟩

set_option maxHeartbeats 400000 in
theorem err_on (B : Nat) (zs : List Int) (e : Int) (w : World) {S : Nat → Prop} (hS : ∀ i, Jb B i → S i) (h : EyeOn S w B zs e) :
    Calls Try.prog 26 #[.pointer (some ⟨B, 0, none⟩)] w fun r w' => r = .returned (.int .i64 e) ∧ w = w' := by
  have HS := hid hS
  clear hS
  obtain ⟨v, hb, -⟩ := h
  have c1 := hb.cell 1
  have c0 := hb.cell 0
  simp only [List.getElem?_cons_zero, List.getElem?_cons_succ] at c0 c1
  clear hb
  go_enter Try.func26, Try.ntmps26
  go_wp2
  go_ret
  exact ⟨rfl, rfl⟩
set_option maxHeartbeats 400000 in
theorem fail_on (B : Nat) (zs : List Int) (e f : Int) (w : World) {S : Nat → Prop} (hS : ∀ i, Jb B i → S i) (h : EyeOn S w B zs e) :
    Calls Try.prog 40 #[.pointer (some ⟨B, 0, none⟩), .int .i64 f] w fun r w' => r = .returned (.tuple #[]) ∧ EyeOn S w' B (failS zs e f) (failE e f) ∧ Kp (Jb B) w w' := by
  have HS := hid hS
  clear hS
  obtain ⟨v, hb, hv⟩ := h
  have c1 := hb.cell 1
  have c0 := hb.cell 0
  simp only [List.getElem?_cons_zero, List.getElem?_cons_succ] at c0 c1
  have f0 := hb.frozen 0
  have f1 := hb.frozen 1
  have HB := hid hb
  have HV := hid hv
  clear hb hv
  by_cases h0 : e = 0
  · by_cases h1 : f = 0
    · have HN := hid (show ¬ (e = 0 ∧ f ≠ 0) by omega)
      have g1 : (f != 0) = false := by rw [bne_eq_false_iff_eq]; exact h1
      subst h0
      go_enter Try.func40, Try.ntmps40
      go_wp2
      go_end0
      exact ⟨rfl, by simp only [failS, failE, ne_eq, not_true_eq_false, and_false, if_false]; exact ⟨v, HB.out, HV.out⟩, Kp.refl _ _⟩
    · have HN := hid (show (e = 0 ∧ f ≠ 0) from ⟨h0, h1⟩)
      have g1 : (f != 0) = true := by rw [bne_iff_ne]; exact h1
      subst h0
      go_enter Try.func40, Try.ntmps40
      go_wp2
      go_end0
      refine ⟨rfl, ?_, ((Kp.refl (Jb B) w).set 1 _).set 0 _⟩
      have hf := HN.out.2
      simp only [failS, failE, ne_eq, hf, not_false_eq_true, and_true, if_true]
      exact ⟨.slice none 0 0, (HB.out.set 1 (.int .i64 f)).set 0 (.slice none 0 0), fun i => by simp, .inl ⟨⟨none, 0, rfl⟩, rfl⟩⟩
  · have HN := hid (show ¬ (e = 0 ∧ f ≠ 0) by omega)
    have g1 : (e == 0) = false := by rw [beq_eq_false_iff_ne]; exact h0
    go_enter Try.func40, Try.ntmps40
    go_wp2
    go_end0
    exact ⟨rfl, by unfold failS failE; rw [if_neg HN.out, if_neg HN.out]; exact ⟨v, HB.out, HV.out⟩, Kp.refl _ _⟩
set_option maxRecDepth 100000 in
set_option maxHeartbeats 1000000 in
theorem number_on (B : Nat) (zs : List Int) (e most : Int) (w : World) {S : Nat → Prop} (hS : ∀ i, Jb B i → S i) (h : EyeOn S w B zs e) :
    Calls Try.prog 39 #[.pointer (some ⟨B, 0, none⟩), .int .u64 most] w fun r w' => r = .returned (.int .u64 (readN zs e most).1) ∧ EyeOn S w' B (readN zs e most).2.1 (readN zs e most).2.2 ∧ Kp (Jb B) w w' := by
  have HS := hid hS
  clear hS
  have H := hid h
  obtain ⟨v, hb, hv⟩ := h
  have c0 := hb.cell 0
  simp only [List.getElem?_cons_zero] at c0
  have f0 := hb.frozen 0
  have HB := hid hb
  have HV := hid hv
  clear hb hv
  obtain ⟨R, hR⟩ : ∃ R, R = readN zs e most := ⟨_, rfl⟩
  rw [← hR]
  have HR := hid hR
  clear hR
  unfold readN at HR
  by_cases he : e = 0
  · subst he
    have HR2 := HR.out.trans (if_neg (fun h => h rfl))
    have HR := hid HR2
    clear HR2
    have hok := firstOf_ok zs
    have HF : Hid (firstVal zs = .tuple #[.int .u64 (firstOf zs).1, .int .i64 (firstOf zs).2.1, .int .i64 (firstOf zs).2.2]) := (rfl : firstVal zs = firstVal zs)
    obtain ⟨⟨U, N, E⟩, hF⟩ : ∃ F, F = firstOf zs := ⟨_, rfl⟩
    rw [← hF] at HR hok HF
    clear hF
    simp only at HR hok HF
    go_enter Try.func39, Try.ntmps39
    go_wp2_with fail
    refine (err_on B zs 0 _ HS.out H.out).mono ?_
    rintro r w1 ⟨rfl, rfl⟩
    go_wp2_with fail
    refine (firstb_any v zs _ HV.out).mono ?_
    rintro r w1 ⟨rfl, rfl⟩
    rw [HF.out]
    by_cases hE : E = 0
    · subst hE
      have HR2 := HR.out.trans (if_neg (fun h => h rfl))
      by_cases hm : most < U
      · rw [if_pos hm] at HR2
        subst HR2
        clear HR hok
        go_wp2_with fail
        refine (fail_on B zs 0 12 _ HS.out H.out).mono ?_
        rintro r w2 ⟨rfl, h2, k2⟩
        have H2 := hid h2
        have K2 := hid k2
        clear h2 k2
        go_wp2
        go_ret
        exact ⟨rfl, H2.out, K2.out⟩
      · rw [if_neg hm] at HR2
        subst HR2
        clear HR
        have hN := hok rfl
        clear hok
        obtain ⟨xv, cv, hV1, hV2⟩ := HV.out.cutL N hN.2
        have HV2 := hid hV2
        clear hV2
        go_wp2
        go_ret
        refine ⟨rfl, ⟨_, HB.out.set 0 _, ?_⟩, (Kp.refl _ _).set 0 _⟩
        exact HV2.out.kept ((Kp.refl (Jb B) _).set 0 _) HS.out
    · have HR2 := HR.out
      rw [if_pos hE] at HR2
      subst HR2
      clear HR hok
      have g1 : (E == 0) = false := by rw [beq_eq_false_iff_ne]; exact hE
      have g2 : (E != 0) = true := by rw [bne_iff_ne]; exact hE
      have HE := hid hE
      clear hE
      go_wp2_with fail
      refine (fail_on B zs 0 E _ HS.out H.out).mono ?_
      rintro r w2 ⟨rfl, h2, k2⟩
      have e1 : failS zs 0 E = [] := by unfold failS; rw [if_pos ⟨rfl, HE.out⟩]
      have e2 : failE 0 E = E := by unfold failE; rw [if_pos ⟨rfl, HE.out⟩]
      rw [e1, e2] at h2
      have H2 := hid h2
      have K2 := hid k2
      clear h2 k2 e1 e2
      go_wp2
      go_ret
      exact ⟨rfl, H2.out, K2.out⟩
  · have HR2 := HR.out
    rw [if_pos he] at HR2
    subst HR2
    clear HR
    have g1 : (e != 0) = true := by rw [bne_iff_ne]; exact he
    clear he
    go_enter Try.func39, Try.ntmps39
    go_wp2_with fail
    refine (err_on B zs e _ HS.out H.out).mono ?_
    rintro r w1 ⟨rfl, rfl⟩
    go_wp2
    go_ret
    exact ⟨rfl, H.out, Kp.refl _ _⟩
set_option maxRecDepth 100000 in
set_option maxHeartbeats 400000 in
theorem take_on (B : Nat) (zs : List Int) (e : Int) (n : Nat) (w : World) {S : Nat → Prop} (hS : ∀ i, Jb B i → S i) (h : EyeOn S w B zs e) (hn : n ≤ zs.length) (hbig : zs.length ≤ 140737488355328) :
    Calls Try.prog 54 #[.pointer (some ⟨B, 0, none⟩), .int .i64 n] w fun r w' => (∃ v', r = .returned v' ∧ BySl (fun i => i < w.heap.size) w' v' (zs.take n)) ∧ EyeOn S w' B (zs.drop n) e ∧ Kp (Jb B) w w' := by
  have HS := hid hS
  clear hS
  have hlt := h.lt
  obtain ⟨v, hb, hv⟩ := h
  have c0 := hb.cell 0
  simp only [List.getElem?_cons_zero] at c0
  obtain ⟨x1, d1, t1, b1⟩ := hv.cutH n hn
  obtain ⟨x2, d2, t2, b2⟩ := hv.cutL n hn
  have HB := hid hb
  have H1 := hid b1
  have H2 := hid b2
  have hl : (zs.take n).length ≤ 140737488355328 := by rw [List.length_take]; omega
  have HL := hid hl
  have HLT := hid hlt
  clear hb hv b1 b2 hl hbig hlt hn
  go_enter Try.func54, Try.ntmps54
  go_wp2_with fail
  refine (clone_any _ (zs.take n) _ H1.out HL.out).mono ?_
  rintro r w1 ⟨v', rfl, ho, k1⟩
  obtain ⟨xo, co, rfl⟩ := own_slice ho
  have hb1 := HB.out.kept k1 (fun h => h)
  have c1 := hb1.cell 0
  simp only [List.getElem?_cons_zero] at c1
  have f1 := hb1.frozen 0
  have HB1 := hid hb1
  have hv1 : BySl (fun i => i < w.heap.size) w1 (.slice xo (zs.take n).length co) (zs.take n) := (BySl.ofOwn ho H1.out.1 (fun k hk _ h => by have := hk; omega))
  rw [List.length_take] at hv1
  have HV1 := hid hv1
  clear hv1
  have HV2 := hid (H2.out.kept (S' := Nb) k1 (fun _ h => absurd h (fun h => h)))
  have K1 := hid (k1.mono (S' := Jb B) (fun _ _ h => absurd h (fun h => h)))
  clear ho k1 hb1 c0
  go_wp2
  go_ret
  refine ⟨⟨_, rfl, ?_⟩, ⟨_, HB1.out.set 0 _, ?_⟩, K1.out.set 0 _⟩
  · exact HV1.out.kept ((Kp.refl (Jb B) _).set 0 _) (fun i h => by have h' : i = B := h; have := HLT.out; show i < _; omega)
  · exact HV2.out.kept ((Kp.refl (Jb B) _).set 0 _) HS.out
set_option maxRecDepth 100000 in
set_option maxHeartbeats 400000 in
theorem fixed_on (B : Nat) (zs : List Int) (e n : Int) (w : World) {S : Nat → Prop} (hS : ∀ i, Jb B i → S i) (h : EyeOn S w B zs e) (hbig : zs.length ≤ 140737488355328) :
    Calls Try.prog 41 #[.pointer (some ⟨B, 0, none⟩), .int .i64 n] w fun r w' => (∃ v', r = .returned v' ∧ BySl (fun i => i < w.heap.size) w' v' (fixN zs e n).1) ∧ EyeOn S w' B (fixN zs e n).2.1 (fixN zs e n).2.2 ∧ Kp (Jb B) w w' := by
  have HS := hid hS
  clear hS
  have H := hid h
  obtain ⟨v, hb, hv⟩ := h
  have c0 := hb.cell 0
  simp only [List.getElem?_cons_zero] at c0
  obtain ⟨x, c, rfl⟩ : ∃ x c, v = .slice x zs.length c := by
    rcases hv.2 with ⟨⟨a, c, rfl⟩, rfl⟩ | ⟨blk, off, cap, rfl, -⟩
    · exact ⟨a, c, rfl⟩
    · exact ⟨_, _, rfl⟩
  clear hb hv
  obtain ⟨R, hR⟩ : ∃ R, R = fixN zs e n := ⟨_, rfl⟩
  rw [← hR]
  have HR := hid hR
  clear hR
  unfold fixN at HR
  have HBIG := hid hbig
  clear hbig
  by_cases he : e = 0
  · subst he
    have HR2 := HR.out.trans (if_neg (fun h => h rfl))
    by_cases hn : n < 0
    · rw [if_pos hn] at HR2
      subst HR2
      clear HR
      go_enter Try.func41, Try.ntmps41
      go_wp2_with fail
      refine (err_on B zs 0 _ HS.out H.out).mono ?_
      rintro r w1 ⟨rfl, rfl⟩
      go_wp2_with fail
      refine (fail_on B zs 0 2 _ HS.out H.out).mono ?_
      rintro r w2 ⟨rfl, h2, k2⟩
      have H2 := hid h2
      have K2 := hid k2
      clear h2 k2
      go_wp2
      go_ret
      exact ⟨⟨_, rfl, BySl.none _⟩, H2.out, K2.out⟩
    · rw [if_neg hn] at HR2
      by_cases hl : (zs.length : Int) < n
      · rw [if_pos hl] at HR2
        subst HR2
        clear HR
        go_enter Try.func41, Try.ntmps41
        go_wp2_with fail
        refine (err_on B zs 0 _ HS.out H.out).mono ?_
        rintro r w1 ⟨rfl, rfl⟩
        go_wp2_with fail
        refine (fail_on B zs 0 10 _ HS.out H.out).mono ?_
        rintro r w2 ⟨rfl, h2, k2⟩
        have H2 := hid h2
        have K2 := hid k2
        clear h2 k2
        go_wp2
        go_ret
        exact ⟨⟨_, rfl, BySl.none _⟩, H2.out, K2.out⟩
      · rw [if_neg hl] at HR2
        subst HR2
        clear HR
        obtain ⟨m, rfl⟩ := Int.eq_ofNat_of_zero_le (show 0 ≤ n by omega)
        rw [Int.toNat_natCast]
        go_enter Try.func41, Try.ntmps41
        go_wp2_with fail
        refine (err_on B zs 0 _ HS.out H.out).mono ?_
        rintro r w1 ⟨rfl, rfl⟩
        go_wp2_with fail
        refine (take_on B zs 0 m _ HS.out H.out (by omega) HBIG.out).mono ?_
        rintro r w2 ⟨⟨v', rfl, h3⟩, h2, k2⟩
        have H2 := hid h2
        have H3 := hid h3
        have K2 := hid k2
        clear h2 k2 h3
        go_wp2
        go_ret
        exact ⟨⟨_, rfl, H3.out⟩, H2.out, K2.out⟩
  · have HR2 := HR.out.trans (if_pos he)
    subst HR2
    clear HR
    have g1 : (e != 0) = true := by rw [bne_iff_ne]; exact he
    clear he
    go_enter Try.func41, Try.ntmps41
    go_wp2_with fail
    refine (err_on B zs e _ HS.out H.out).mono ?_
    rintro r w1 ⟨rfl, rfl⟩
    go_wp2
    go_ret
    exact ⟨⟨_, rfl, BySl.none _⟩, H.out, Kp.refl _ _⟩

end Go.Proofs.Ytpgiinogfmhfiaa
