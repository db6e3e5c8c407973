/-
  Layer 2: plain facts on numbers as bytes: read again, and in order. Nothing is walked here. No condition.
-/
import Derived.Test.YtmgmghlflldepaaPenD
import Derived.Test.YtmgmghlflldepaaRefB
import Derived.Test.YtmgmghlflldepaaJoined
import Derived.Test.YtmgmghlflldepaaLex
namespace Go.Proofs.Ytmgmghlflldepaa
open Go.RowKit

theorem bl_bounds : ∀ (f x : Nat), x < 2 ^ f → x ≠ 0 → 1 ≤ Lib.bitLenAux f x ∧ 2 ^ (Lib.bitLenAux f x - 1) ≤ x ∧ x < 2 ^ Lib.bitLenAux f x
  | 0, x, h, h0 => by simp at h; omega
  | f + 1, x, h, h0 => by
    unfold Lib.bitLenAux
    rw [if_neg h0]
    by_cases h2 : x / 2 = 0
    · have hx : x = 1 := by omega
      subst hx
      have e : Lib.bitLenAux f (1 / 2) = 0 := by
        cases f with
        | zero => rfl
        | succ f => unfold Lib.bitLenAux; rfl
      rw [e]
      decide
    · have ih := bl_bounds f (x / 2) (by rw [Nat.pow_succ] at h; omega) h2
      obtain ⟨i1, i2, i3⟩ := ih
      refine ⟨by omega, ?_, ?_⟩
      · have e : 1 + Lib.bitLenAux f (x / 2) - 1 = (Lib.bitLenAux f (x / 2) - 1) + 1 := by omega
        rw [e, Nat.pow_succ]
        omega
      · rw [Nat.add_comm, Nat.pow_succ]
        omega
theorem bitLen_bounds (x : Nat) (h : x < 18446744073709551616) (h0 : x ≠ 0) : 1 ≤ Lib.bitLen x ∧ 2 ^ (Lib.bitLen x - 1) ≤ x ∧ x < 2 ^ Lib.bitLen x := bl_bounds 64 x h h0

theorem kOf_bounds (u : Int) (h0 : 0 < u) (h1 : u < 18446744073709551616) : 1 ≤ kOf u ∧ (2 : Int) ^ (8 * (kOf u - 1)) ≤ u ∧ u < 2 ^ (8 * kOf u) := by
  obtain ⟨U, rfl⟩ := Int.eq_ofNat_of_zero_le (Int.le_of_lt h0)
  have hb := bitLen_bounds U (by omega) (by omega)
  unfold kOf
  rw [Int.toNat_natCast]
  obtain ⟨L, hL⟩ : ∃ L, L = Lib.bitLen U := ⟨_, rfl⟩
  rw [← hL] at hb ⊢
  obtain ⟨b1, b2, b3⟩ := hb
  have e1 : 2 ^ (8 * ((L + 7) / 8 - 1)) ≤ 2 ^ (L - 1) := Nat.pow_le_pow_right (by decide) (by omega)
  have e2 : 2 ^ L ≤ 2 ^ (8 * ((L + 7) / 8)) := Nat.pow_le_pow_right (by decide) (by omega)
  refine ⟨by omega, ?_, ?_⟩
  · have : (((2 ^ (8 * ((L + 7) / 8 - 1)) : Nat)) : Int) ≤ (U : Int) := by omega
    rw [Int.natCast_pow] at this
    exact this
  · have : (U : Int) < (((2 ^ (8 * ((L + 7) / 8)) : Nat)) : Int) := by omega
    rw [Int.natCast_pow] at this
    exact this

/-- A number of bytes, the greatest first. -/
def beN (xs : List Int) : Int := xs.foldl (fun a x => a * 256 + x) 0
theorem beN_snoc (xs : List Int) (x : Int) : beN (xs ++ [x]) = beN xs * 256 + x := by unfold beN; rw [List.foldl_append]; rfl
theorem beN_acc (xs : List Int) : ∀ a : Int, xs.foldl (fun a x => a * 256 + x) a = a * 256 ^ xs.length + beN xs := by
  induction xs with
  | nil => intro a; simp [beN]
  | cons x r ih =>
    intro a
    show r.foldl _ (a * 256 + x) = _
    have h2 : beN (x :: r) = (0 * 256 + x) * 256 ^ r.length + beN r := by show r.foldl _ (0 * 256 + x) = _; rw [ih]
    rw [ih, h2, List.length_cons, Int.pow_succ, Int.add_mul, Int.add_mul, Int.zero_mul, Int.zero_mul, Int.zero_add, Int.mul_comm (256 ^ r.length) 256, ← Int.mul_assoc]
    omega
theorem beN_cons (x : Int) (r : List Int) : beN (x :: r) = x * 256 ^ r.length + beN r := by
  show r.foldl _ (0 * 256 + x) = _
  rw [beN_acc, Int.zero_mul, Int.zero_add]
theorem beN_range (xs : List Int) (h : IsBytes xs) : 0 ≤ beN xs ∧ beN xs < 256 ^ xs.length := by
  induction xs with
  | nil => exact ⟨Int.le_refl _, by decide⟩
  | cons x r ih =>
    have i := ih h.tail
    have hx := h.head
    rw [beN_cons, List.length_cons, Int.pow_succ]
    have hp : (0 : Int) ≤ 256 ^ r.length := Int.pow_nonneg (by decide)
    obtain ⟨Q, hQ⟩ : ∃ Q : Int, Q = 256 ^ r.length := ⟨_, rfl⟩
    rw [← hQ] at i hp ⊢
    have e1 : 0 ≤ x * Q := Int.mul_nonneg hx.1 hp
    have e2 : x * Q ≤ 255 * Q := Int.mul_le_mul_of_nonneg_right (by omega) hp
    omega

theorem div_step (u : Int) (m : Nat) : u / 2 ^ (8 * (m + 1)) * 256 + u / 2 ^ (8 * m) % 256 = u / 2 ^ (8 * m) := by
  have e : (2 : Int) ^ (8 * (m + 1)) = 2 ^ (8 * m) * 256 := by rw [show 8 * (m + 1) = 8 * m + 8 from by omega, Int.pow_add]; rfl
  rw [e, ← Int.ediv_ediv_of_nonneg (Int.pow_nonneg (by decide))]
  omega
theorem digits_num (u : Int) (h0 : 0 ≤ u) (k : Nat) (hk : u < 2 ^ (8 * k)) : ∀ j, j ≤ k → beN (digits u k j) = u / 2 ^ (8 * (k - j))
  | 0, _ => by
    show (0 : Int) = _
    rw [Nat.sub_zero]
    exact (Int.ediv_eq_zero_of_lt h0 hk).symm
  | j + 1, hj => by
    rw [digits_succ, beN_snoc, digits_num u h0 k hk j (by omega)]
    unfold digit
    have e : k - j = (k - (j + 1)) + 1 := by omega
    have e2 : k - 1 - j = k - (j + 1) := by omega
    rw [e, e2]
    exact div_step u _
theorem digits_all (u : Int) (h0 : 0 ≤ u) (k : Nat) (hk : u < 2 ^ (8 * k)) : beN (digits u k k) = u := by
  rw [digits_num u h0 k hk k (Nat.le_refl _), Nat.sub_self]
  exact Int.ediv_one u
theorem digits_length (u : Int) (k j : Nat) : (digits u k j).length = j := by unfold digits; simp
theorem digits_bytes (u : Int) (k j : Nat) : IsBytes (digits u k j) := by
  refine IsBytes.of fun z hz => ?_
  unfold digits at hz
  obtain ⟨i, _, rfl⟩ := List.mem_map.1 hz
  unfold digit
  omega

theorem or_step (A d : Int) (h0 : 0 ≤ A) (h1 : A < 72057594037927936) (d0 : 0 ≤ d) (d1 : d < 256) : bits .or .u64 (IntKind.u64.wrap (A * 256)) d = A * 256 + d := by
  obtain ⟨a, rfl⟩ := Int.eq_ofNat_of_zero_le h0
  obtain ⟨e, rfl⟩ := Int.eq_ofNat_of_zero_le d0
  have hw : IntKind.u64.wrap ((a : Int) * 256) = ((a * 256 : Nat) : Int) := by rw [IntKind.wrap_u64]; omega
  rw [hw, bits_or_u64_nat _ _ (by omega) (by omega)]
  have := Nat.shiftLeft_add_eq_or_of_lt (i := 8) (show e < 2 ^ 8 by omega) a
  rw [Nat.shiftLeft_eq, show (2 : Nat) ^ 8 = 256 from rfl] at this
  omega
theorem beTo_num (zs : List Int) (h : IsBytes zs) : ∀ k, k ≤ 8 → k ≤ zs.length → beTo zs k = beN (zs.take k)
  | 0, _, _ => rfl
  | k + 1, hk, hl => by
    have ih := beTo_num zs h k (by omega) (by omega)
    have hr := beN_range (zs.take k) (h.take k)
    rw [List.length_take, Nat.min_eq_left (by omega)] at hr
    have hp : (256 : Int) ^ k ≤ 256 ^ 7 := by
      rw [pow_nat, pow_nat]
      have := Nat.pow_le_pow_right (n := 2) (by decide) (show 8 * k ≤ 8 * 7 by omega)
      omega
    have hq : (256 : Int) ^ 7 = 72057594037927936 := by decide
    show bits .or .u64 (IntKind.u64.wrap (beTo zs k * 256)) (zs[k]?.getD 0) = _
    rw [ih, take_snoc zs k (by omega), beN_snoc]
    exact or_step _ _ hr.1 (by omega) (h k).1 (h k).2

theorem numBytes_bytes (u : Int) (h0 : 0 ≤ u) (h1 : u < 18446744073709551616) : IsBytes (numBytes u) := by
  unfold numBytes
  split
  · exact IsBytes.one h0 (by omega)
  · have := kOf_le u h1
    exact (IsBytes.one (by omega) (by omega)).append (digits_bytes _ _ _)
theorem numBytes_size (u : Int) : (numBytes u).length = sizeN u := by
  unfold numBytes sizeN
  split
  · rfl
  · rw [List.length_append, digits_length]; rfl
theorem firstOf_numBytes (u : Int) (h0 : 0 ≤ u) (h1 : u < 18446744073709551616) (rest : List Int) (hr : IsBytes rest) : firstOf (numBytes u ++ rest) = (u, sizeN u, 0) := by
  by_cases hu : u ≤ 247
  · have e : numBytes u = [u] := by unfold numBytes; rw [if_pos hu]
    have e2 : sizeN u = 1 := by unfold sizeN; rw [if_pos hu]
    rw [e, e2]
    unfold firstOf
    rw [if_neg (by simp)]
    have e3 : ([u] ++ rest)[0]?.getD 0 = u := rfl
    rw [e3, if_pos hu]
  · obtain ⟨k1, k2, k3⟩ := kOf_bounds u (by omega) h1
    have k8 := kOf_le u h1
    have e : numBytes u = [247 + (kOf u : Int)] ++ digits u (kOf u) (kOf u) := by unfold numBytes; rw [if_neg hu]
    have e2 : sizeN u = 1 + kOf u := by unfold sizeN; rw [if_neg hu]
    rw [e]
    unfold firstOf
    have e3 : ([247 + (kOf u : Int)] ++ digits u (kOf u) (kOf u) ++ rest)[0]?.getD 0 = 247 + (kOf u : Int) := rfl
    have e4 : (247 + (kOf u : Int) - 247).toNat = kOf u := by omega
    have e5 : ([247 + (kOf u : Int)] ++ digits u (kOf u) (kOf u) ++ rest).length = 1 + kOf u + rest.length := by rw [List.length_append, List.length_append, digits_length]; rfl
    have e6 : ([247 + (kOf u : Int)] ++ digits u (kOf u) (kOf u) ++ rest).drop 1 = digits u (kOf u) (kOf u) ++ rest := rfl
    have hb : beTo (digits u (kOf u) (kOf u) ++ rest) (kOf u) = u := by
      rw [beTo_num _ ((digits_bytes _ _ _).append hr) _ k8 (by rw [List.length_append, digits_length]; omega)]
      have : (digits u (kOf u) (kOf u) ++ rest).take (kOf u) = digits u (kOf u) (kOf u) := by
        have := List.take_left (l₁ := digits u (kOf u) (kOf u)) (l₂ := rest)
        rwa [digits_length] at this
      rw [this, digits_all u h0 _ k3]
    rw [e3, e4, e5, e6, hb, if_neg (by omega), if_neg (by omega), if_neg (by omega), if_pos e2, e2]

theorem readN_numBytes (u most : Int) (h0 : 0 ≤ u) (h1 : u < 18446744073709551616) (hm : u ≤ most) (rest : List Int) (hr : IsBytes rest) : readN (numBytes u ++ rest) 0 most = (u, rest, 0) := by
  unfold readN
  rw [firstOf_numBytes u h0 h1 rest hr, if_neg (by simp), if_neg (by simp), if_neg (by show ¬ most < u; omega)]
  show (u, (numBytes u ++ rest).drop (sizeN u), (0 : Int)) = _
  rw [← numBytes_size, List.drop_left]

theorem xor_ones (x : Nat) (h : x < 2 ^ 64) : x ^^^ (2 ^ 64 - 1) = 2 ^ 64 - 1 - x := by rw [Nat.xor_comm]; exact not64 x h
theorem zig_is (n : Int) (h0 : -9223372036854775808 ≤ n) (h1 : n < 9223372036854775808) : zigI n = if n < 0 then -2 * n - 1 else 2 * n := by
  unfold zigI
  by_cases hn : n < 0
  · rw [if_pos hn]
    obtain ⟨m, hm⟩ := Int.eq_ofNat_of_zero_le (show 0 ≤ 18446744073709551616 + 2 * n by omega)
    have e1 : IntKind.u64.wrap (IntKind.u64.wrap n * 2) = (m : Int) := by rw [IntKind.wrap_u64, IntKind.wrap_u64]; omega
    have e2 : IntKind.u64.wrap (n / 9223372036854775808) = ((2 ^ 64 - 1 : Nat) : Int) := by rw [IntKind.wrap_u64]; omega
    rw [e1, e2, bits_xor_u64_nat _ _ (by omega) (by decide), xor_ones m (by omega)]
    omega
  · rw [if_neg hn]
    obtain ⟨m, hm⟩ := Int.eq_ofNat_of_zero_le (show 0 ≤ 2 * n by omega)
    have e1 : IntKind.u64.wrap (IntKind.u64.wrap n * 2) = (m : Int) := by rw [IntKind.wrap_u64, IntKind.wrap_u64]; omega
    have e2 : IntKind.u64.wrap (n / 9223372036854775808) = ((0 : Nat) : Int) := by rw [IntKind.wrap_u64]; omega
    rw [e1, e2, bits_xor_u64_nat _ _ (by omega) (by decide), Nat.xor_zero]
    omega
theorem zag_zig (n : Int) (h0 : -9223372036854775808 ≤ n) (h1 : n < 9223372036854775808) : zagI (zigI n) = n := by
  rw [zig_is n h0 h1]
  unfold zagI
  split <;> split <;> omega
theorem zag_range (u : Int) (h0 : 0 ≤ u) (h1 : u < 18446744073709551616) : -9223372036854775808 ≤ zagI u ∧ zagI u < 9223372036854775808 := by
  unfold zagI
  split <;> omega
theorem zig_zag (u : Int) (h0 : 0 ≤ u) (h1 : u < 18446744073709551616) : zigI (zagI u) = u := by
  have hr := zag_range u h0 h1
  rw [zig_is _ hr.1 hr.2]
  unfold zagI
  split <;> split <;> omega

theorem num_lex : ∀ (xs ys : List Int), IsBytes xs → IsBytes ys → xs.length = ys.length → lexI xs ys = decide (beN xs < beN ys)
  | [], [], _, _, _ => rfl
  | [], _ :: _, _, _, h => by simp at h
  | _ :: _, [], _, _, h => by simp at h
  | a :: x, b :: y, hx, hy, h => by
    have hl : x.length = y.length := by simpa using h
    have ih := num_lex x y hx.tail hy.tail hl
    have rx := beN_range x hx.tail
    have ry := beN_range y hy.tail
    rw [beN_cons, beN_cons, ← hl]
    rw [← hl] at ry
    obtain ⟨Q, hQ⟩ : ∃ Q : Int, Q = 256 ^ x.length := ⟨_, rfl⟩
    rw [← hQ] at rx ry ⊢
    show (decide (a < b) || (a == b && lexI x y)) = _
    rw [ih]
    rcases Int.lt_trichotomy a b with h1 | h1 | h1
    · have : (a + 1) * Q ≤ b * Q := Int.mul_le_mul_of_nonneg_right (by omega) (by omega)
      rw [Int.add_mul] at this
      rw [decide_eq_true h1, Bool.true_or, decide_eq_true (show a * Q + beN x < b * Q + beN y by omega)]
    · subst h1
      rw [decide_eq_false (Int.lt_irrefl a), Bool.false_or, beq_self_eq_true, Bool.true_and]
      exact decide_eq_decide.2 (by omega)
    · have : (b + 1) * Q ≤ a * Q := Int.mul_le_mul_of_nonneg_right (by omega) (by omega)
      rw [Int.add_mul] at this
      rw [decide_eq_false (show ¬ a < b by omega), Bool.false_or, beq_eq_false_iff_ne.2 (show a ≠ b by omega), Bool.false_and, decide_eq_false (show ¬ a * Q + beN x < b * Q + beN y by omega)]

theorem pow_le (a b : Nat) (h : a ≤ b) : (2 : Int) ^ a ≤ 2 ^ b := by
  have := Nat.pow_le_pow_right (n := 2) (by decide) h
  have e1 : ((2 ^ a : Nat) : Int) = 2 ^ a := Int.natCast_pow 2 a
  have e2 : ((2 ^ b : Nat) : Int) = 2 ^ b := Int.natCast_pow 2 b
  omega
theorem numBytes_head (u : Int) (h0 : 0 ≤ u) (h1 : u < 18446744073709551616) :
    (u ≤ 247 ∧ numBytes u = [u]) ∨ (247 < u ∧ 1 ≤ kOf u ∧ numBytes u = (247 + (kOf u : Int)) :: digits u (kOf u) (kOf u) ∧ (2 : Int) ^ (8 * (kOf u - 1)) ≤ u ∧ u < 2 ^ (8 * kOf u)) := by
  by_cases hu : u ≤ 247
  · exact .inl ⟨hu, by unfold numBytes; rw [if_pos hu]⟩
  · obtain ⟨k1, k2, k3⟩ := kOf_bounds u (by omega) h1
    exact .inr ⟨by omega, k1, by unfold numBytes; rw [if_neg hu]; rfl, k2, k3⟩
theorem lex_head (a b : Int) (x y : List Int) (h : a ≠ b) : lexI (a :: x) (b :: y) = decide (a < b) := by
  show (decide (a < b) || (a == b && lexI x y)) = _
  rw [beq_eq_false_iff_ne.2 h, Bool.false_and, Bool.or_false]
theorem order_lt (u v : Int) (h0 : 0 ≤ u) (h1 : u < 18446744073709551616) (g0 : 0 ≤ v) (g1 : v < 18446744073709551616) : lexI (numBytes u) (numBytes v) = decide (u < v) := by
  rcases numBytes_head u h0 h1 with ⟨hu, eu⟩ | ⟨hu, ku, eu, lu, mu⟩ <;> rcases numBytes_head v g0 g1 with ⟨hv, ev⟩ | ⟨hv, kv, ev, lv, mv⟩
  · rw [eu, ev, num_lex [u] [v] (IsBytes.one h0 (by omega)) (IsBytes.one g0 (by omega)) rfl]
    exact decide_eq_decide.2 (by simp [beN])
  · rw [eu, ev, lex_head _ _ _ _ (by omega)]
    exact decide_eq_decide.2 (by omega)
  · rw [eu, ev, lex_head _ _ _ _ (by omega)]
    exact decide_eq_decide.2 (by omega)
  · rw [eu, ev]
    rcases Nat.lt_trichotomy (kOf u) (kOf v) with h | h | h
    · have := pow_le (8 * kOf u) (8 * (kOf v - 1)) (by omega)
      rw [lex_head _ _ _ _ (by omega)]
      exact decide_eq_decide.2 (by omega)
    · show (decide (247 + (kOf u : Int) < 247 + (kOf v : Int)) || (247 + (kOf u : Int) == 247 + (kOf v : Int) && lexI (digits u (kOf u) (kOf u)) (digits v (kOf v) (kOf v)))) = _
      rw [num_lex _ _ (digits_bytes _ _ _) (digits_bytes _ _ _) (by rw [digits_length, digits_length, h]), digits_all u h0 _ mu, digits_all v g0 _ mv, h]
      simp
    · have := pow_le (8 * kOf v) (8 * (kOf u - 1)) (by omega)
      rw [lex_head _ _ _ _ (by omega)]
      exact decide_eq_decide.2 (by omega)
theorem lex_self : ∀ xs : List Int, lexI xs xs = false
  | [] => rfl
  | a :: x => by
    show (decide (a < a) || (a == a && lexI x x)) = false
    rw [lex_self x]; simp
theorem order_eq (u v : Int) (h0 : 0 ≤ u) (h1 : u < 18446744073709551616) (g0 : 0 ≤ v) (g1 : v < 18446744073709551616) : numBytes u = numBytes v ↔ u = v := by
  refine ⟨fun e => ?_, fun e => by rw [e]⟩
  have a1 := order_lt u v h0 h1 g0 g1
  have a2 := order_lt v u g0 g1 h0 h1
  rw [e, lex_self] at a1
  rw [e, lex_self] at a2
  have b1 := of_decide_eq_false a1.symm
  have b2 := of_decide_eq_false a2.symm
  omega
theorem order_begin (u v : Int) (h0 : 0 ≤ u) (h1 : u < 18446744073709551616) (g0 : 0 ≤ v) (g1 : v < 18446744073709551616) (hne : u ≠ v) : (numBytes v).take (numBytes u).length ≠ numBytes u := by
  intro e
  rcases numBytes_head u h0 h1 with ⟨hu, eu⟩ | ⟨hu, ku, eu, lu, mu⟩ <;> rcases numBytes_head v g0 g1 with ⟨hv, ev⟩ | ⟨hv, kv, ev, lv, mv⟩
  · rw [eu, ev] at e
    simp at e
    omega
  · rw [eu, ev] at e
    simp at e
    omega
  · rw [eu, ev] at e
    simp at e
    omega
  · have ek : kOf u = kOf v := by
      rw [eu, ev, List.length_cons, List.take_succ_cons, List.cons.injEq] at e
      omega
    have el : (numBytes u).length = (numBytes v).length := by rw [eu, ev, List.length_cons, List.length_cons, digits_length, digits_length, ek]
    rw [el, List.take_length] at e
    exact hne ((order_eq u v h0 h1 g0 g1).1 e.symm)

end Go.Proofs.Ytmgmghlflldepaa
