/-
  Lists of bytes as strings: which stands ahead. Plain facts. No condition.
  Layer 2: plain facts on numbers as bytes: read again, and in order. Nothing is walked here. No condition.
  New pens. No condition.
  Layer 10: the walk of Put. Conditions: a mark has sixteen bytes; a check is a number of 64 bits; a right cell; fewer than 2^47 bytes.
-/
import Derived.Test.YteedceepoindeaaJoined
import Derived.Test.YteedceepoindeaaRefP
import Derived.Test.YteedceepoindeaaPenD
import Derived.Test.YteedceepoindeaaRefB
import Derived.Test.YteedceepoindeaaCelE
namespace Go.Proofs.Yteedceepoindeaa
open Go.RowKit

/-- Which list of bytes stands ahead. -/
def lexI : List Int → List Int → Bool
  | _, [] => false
  | [], _ :: _ => true
  | a :: x, b :: y => decide (a < b) || (a == b && lexI x y)

theorem st_list (xs : List Int) : (st xs).toList = xs.map fun z => UInt8.ofNat z.toNat := ByteArray.toList_mk _
theorem byte_lt (a b : Int) (ha : 0 ≤ a ∧ a < 256) (hb : 0 ≤ b ∧ b < 256) : (UInt8.ofNat a.toNat < UInt8.ofNat b.toNat) ↔ a < b := by
  rw [UInt8.lt_iff_toNat_lt, UInt8.toNat_ofNat', UInt8.toNat_ofNat']
  omega
theorem byte_eq (a b : Int) (ha : 0 ≤ a ∧ a < 256) (hb : 0 ≤ b ∧ b < 256) : (UInt8.ofNat a.toNat = UInt8.ofNat b.toNat) ↔ a = b := by
  rw [← UInt8.toNat_inj, UInt8.toNat_ofNat', UInt8.toNat_ofNat']
  omega
theorem lex_st : ∀ (xs ys : List Int), IsBytes xs → IsBytes ys → Op.bytesLess (xs.map fun z => UInt8.ofNat z.toNat) (ys.map fun z => UInt8.ofNat z.toNat) = lexI xs ys
  | [], [], _, _ => rfl
  | [], _ :: _, _, _ => rfl
  | _ :: _, [], _, _ => rfl
  | a :: x, b :: y, hx, hy => by
    have ih := lex_st x y hx.tail hy.tail
    have e1 := byte_lt a b hx.head hy.head
    have e2 := byte_eq a b hx.head hy.head
    show (decide (UInt8.ofNat a.toNat < UInt8.ofNat b.toNat) || (UInt8.ofNat a.toNat == UInt8.ofNat b.toNat && Op.bytesLess _ _)) = (decide (a < b) || (a == b && lexI x y))
    rw [ih, decide_eq_decide.2 e1]
    congr 2
    rw [Bool.eq_iff_iff, beq_iff_eq, beq_iff_eq]
    exact e2
theorem st_lt (xs ys : List Int) (hx : IsBytes xs) (hy : IsBytes ys) : Op.bytesLess (st xs).toList (st ys).toList = lexI xs ys := by rw [st_list, st_list]; exact lex_st xs ys hx hy
theorem map_eq : ∀ (xs ys : List Int), IsBytes xs → IsBytes ys → (xs.map (fun z => UInt8.ofNat z.toNat) = ys.map (fun z => UInt8.ofNat z.toNat)) → xs = ys
  | [], [], _, _, _ => rfl
  | [], _ :: _, _, _, h => by simp at h
  | _ :: _, [], _, _, h => by simp at h
  | a :: x, b :: y, hx, hy, h => by
    rw [List.map_cons, List.map_cons, List.cons.injEq] at h
    rw [(byte_eq a b hx.head hy.head).1 h.1, map_eq x y hx.tail hy.tail h.2]
theorem st_beq (xs ys : List Int) (hx : IsBytes xs) (hy : IsBytes ys) : ((st xs).toList == (st ys).toList) = decide (xs = ys) := by
  rw [st_list, st_list]
  by_cases h : xs = ys
  · subst h; simp
  · rw [decide_eq_false h, beq_eq_false_iff_ne]
    exact fun e => h (map_eq xs ys hx hy e)
theorem lexI_irrefl : ∀ (x : List Int), lexI x x = false
  | [] => rfl
  | a :: x => by rw [lexI, lexI_irrefl x, decide_eq_false (Int.lt_irrefl a), Bool.and_false, Bool.or_false]
theorem lexI_trans : ∀ (x y z : List Int), lexI x y = true → lexI y z = true → lexI x z = true
  | _, [], _, h, _ => by cases ‹List Int› <;> simp [lexI] at h
  | [], _ :: _, [], _, h => by simp [lexI] at h
  | [], _ :: _, _ :: _, _, _ => rfl
  | _ :: _, _ :: _, [], _, h => by simp [lexI] at h
  | a :: x, b :: y, c :: z, h1, h2 => by
    simp only [lexI, Bool.or_eq_true, decide_eq_true_eq, Bool.and_eq_true, beq_iff_eq] at h1 h2 ⊢
    rcases h1 with h1 | ⟨rfl, h1⟩
    · rcases h2 with h2 | ⟨rfl, h2⟩
      · exact .inl (by omega)
      · exact .inl h1
    · rcases h2 with h2 | ⟨rfl, h2⟩
      · exact .inl h2
      · exact .inr ⟨rfl, lexI_trans x y z h1 h2⟩
theorem lexI_tri : ∀ (x y : List Int), lexI x y = false → lexI y x = false → x = y
  | [], [], _, _ => rfl
  | [], _ :: _, h, _ => by simp [lexI] at h
  | _ :: _, [], _, h => by simp [lexI] at h
  | a :: x, b :: y, h1, h2 => by
    simp only [lexI, Bool.or_eq_false_iff, decide_eq_false_iff_not, Bool.and_eq_false_iff, beq_eq_false_iff_ne] at h1 h2
    have e : a = b := by omega
    subst e
    rw [lexI_tri x y (h1.2.resolve_left fun h => h rfl) (h2.2.resolve_left fun h => h rfl)]

end Go.Proofs.Yteedceepoindeaa

namespace Go.Proofs.Yteedceepoindeaa
open Go.RowKit

theorem bl_bounds : ∀ (f x : Nat), x < 2 ^ f → x ≠ 0 → 1 ≤ Lib.bitLenAux f x ∧ 2 ^ (Lib.bitLenAux f x - 1) ≤ x ∧ x < 2 ^ Lib.bitLenAux f x
  | 0, x, h, h0 => by simp at h; omega
  | f + 1, x, h, h0 => by
    unfold Lib.bitLenAux
    rw [if_neg h0]
    by_cases h2 : x / 2 = 0
    · have hx : x = 1 := by omega
      subst hx
      have e : Lib.bitLenAux f (1 / 2) = 0 := by
        cases f with
        | zero => rfl
        | succ f => unfold Lib.bitLenAux; rfl
      rw [e]
      decide
    · have ih := bl_bounds f (x / 2) (by rw [Nat.pow_succ] at h; omega) h2
      obtain ⟨i1, i2, i3⟩ := ih
      refine ⟨by omega, ?_, ?_⟩
      · have e : 1 + Lib.bitLenAux f (x / 2) - 1 = (Lib.bitLenAux f (x / 2) - 1) + 1 := by omega
        rw [e, Nat.pow_succ]
        omega
      · rw [Nat.add_comm, Nat.pow_succ]
        omega
theorem bitLen_bounds (x : Nat) (h : x < 18446744073709551616) (h0 : x ≠ 0) : 1 ≤ Lib.bitLen x ∧ 2 ^ (Lib.bitLen x - 1) ≤ x ∧ x < 2 ^ Lib.bitLen x := bl_bounds 64 x h h0

theorem kOf_bounds (u : Int) (h0 : 0 < u) (h1 : u < 18446744073709551616) : 1 ≤ kOf u ∧ (2 : Int) ^ (8 * (kOf u - 1)) ≤ u ∧ u < 2 ^ (8 * kOf u) := by
  obtain ⟨U, rfl⟩ := Int.eq_ofNat_of_zero_le (Int.le_of_lt h0)
  have hb := bitLen_bounds U (by omega) (by omega)
  unfold kOf
  rw [Int.toNat_natCast]
  obtain ⟨L, hL⟩ : ∃ L, L = Lib.bitLen U := ⟨_, rfl⟩
  rw [← hL] at hb ⊢
  obtain ⟨b1, b2, b3⟩ := hb
  have e1 : 2 ^ (8 * ((L + 7) / 8 - 1)) ≤ 2 ^ (L - 1) := Nat.pow_le_pow_right (by decide) (by omega)
  have e2 : 2 ^ L ≤ 2 ^ (8 * ((L + 7) / 8)) := Nat.pow_le_pow_right (by decide) (by omega)
  refine ⟨by omega, ?_, ?_⟩
  · have : (((2 ^ (8 * ((L + 7) / 8 - 1)) : Nat)) : Int) ≤ (U : Int) := by omega
    rw [Int.natCast_pow] at this
    exact this
  · have : (U : Int) < (((2 ^ (8 * ((L + 7) / 8)) : Nat)) : Int) := by omega
    rw [Int.natCast_pow] at this
    exact this

/-- A number of bytes, the greatest first. -/
def beN (xs : List Int) : Int := xs.foldl (fun a x => a * 256 + x) 0
theorem beN_snoc (xs : List Int) (x : Int) : beN (xs ++ [x]) = beN xs * 256 + x := by unfold beN; rw [List.foldl_append]; rfl
theorem beN_acc (xs : List Int) : ∀ a : Int, xs.foldl (fun a x => a * 256 + x) a = a * 256 ^ xs.length + beN xs := by
  induction xs with
  | nil => intro a; simp [beN]
  | cons x r ih =>
    intro a
    show r.foldl _ (a * 256 + x) = _
    have h2 : beN (x :: r) = (0 * 256 + x) * 256 ^ r.length + beN r := by show r.foldl _ (0 * 256 + x) = _; rw [ih]
    rw [ih, h2, List.length_cons, Int.pow_succ, Int.add_mul, Int.add_mul, Int.zero_mul, Int.zero_mul, Int.zero_add, Int.mul_comm (256 ^ r.length) 256, ← Int.mul_assoc]
    omega
theorem beN_cons (x : Int) (r : List Int) : beN (x :: r) = x * 256 ^ r.length + beN r := by
  show r.foldl _ (0 * 256 + x) = _
  rw [beN_acc, Int.zero_mul, Int.zero_add]
theorem beN_range (xs : List Int) (h : IsBytes xs) : 0 ≤ beN xs ∧ beN xs < 256 ^ xs.length := by
  induction xs with
  | nil => exact ⟨Int.le_refl _, by decide⟩
  | cons x r ih =>
    have i := ih h.tail
    have hx := h.head
    rw [beN_cons, List.length_cons, Int.pow_succ]
    have hp : (0 : Int) ≤ 256 ^ r.length := Int.pow_nonneg (by decide)
    obtain ⟨Q, hQ⟩ : ∃ Q : Int, Q = 256 ^ r.length := ⟨_, rfl⟩
    rw [← hQ] at i hp ⊢
    have e1 : 0 ≤ x * Q := Int.mul_nonneg hx.1 hp
    have e2 : x * Q ≤ 255 * Q := Int.mul_le_mul_of_nonneg_right (by omega) hp
    omega

theorem div_step (u : Int) (m : Nat) : u / 2 ^ (8 * (m + 1)) * 256 + u / 2 ^ (8 * m) % 256 = u / 2 ^ (8 * m) := by
  have e : (2 : Int) ^ (8 * (m + 1)) = 2 ^ (8 * m) * 256 := by rw [show 8 * (m + 1) = 8 * m + 8 from by omega, Int.pow_add]; rfl
  rw [e, ← Int.ediv_ediv_of_nonneg (Int.pow_nonneg (by decide))]
  omega
theorem digits_num (u : Int) (h0 : 0 ≤ u) (k : Nat) (hk : u < 2 ^ (8 * k)) : ∀ j, j ≤ k → beN (digits u k j) = u / 2 ^ (8 * (k - j))
  | 0, _ => by
    show (0 : Int) = _
    rw [Nat.sub_zero]
    exact (Int.ediv_eq_zero_of_lt h0 hk).symm
  | j + 1, hj => by
    rw [digits_succ, beN_snoc, digits_num u h0 k hk j (by omega)]
    unfold digit
    have e : k - j = (k - (j + 1)) + 1 := by omega
    have e2 : k - 1 - j = k - (j + 1) := by omega
    rw [e, e2]
    exact div_step u _
theorem digits_all (u : Int) (h0 : 0 ≤ u) (k : Nat) (hk : u < 2 ^ (8 * k)) : beN (digits u k k) = u := by
  rw [digits_num u h0 k hk k (Nat.le_refl _), Nat.sub_self]
  exact Int.ediv_one u
theorem digits_length (u : Int) (k j : Nat) : (digits u k j).length = j := by unfold digits; simp
theorem digits_bytes (u : Int) (k j : Nat) : IsBytes (digits u k j) := by
  refine IsBytes.of fun z hz => ?_
  unfold digits at hz
  obtain ⟨i, _, rfl⟩ := List.mem_map.1 hz
  unfold digit
  omega

theorem or_step (A d : Int) (h0 : 0 ≤ A) (h1 : A < 72057594037927936) (d0 : 0 ≤ d) (d1 : d < 256) : bits .or .u64 (IntKind.u64.wrap (A * 256)) d = A * 256 + d := by
  obtain ⟨a, rfl⟩ := Int.eq_ofNat_of_zero_le h0
  obtain ⟨e, rfl⟩ := Int.eq_ofNat_of_zero_le d0
  have hw : IntKind.u64.wrap ((a : Int) * 256) = ((a * 256 : Nat) : Int) := by rw [IntKind.wrap_u64]; omega
  rw [hw, bits_or_u64_nat _ _ (by omega) (by omega)]
  have := Nat.shiftLeft_add_eq_or_of_lt (i := 8) (show e < 2 ^ 8 by omega) a
  rw [Nat.shiftLeft_eq, show (2 : Nat) ^ 8 = 256 from rfl] at this
  omega
theorem beTo_num (zs : List Int) (h : IsBytes zs) : ∀ k, k ≤ 8 → k ≤ zs.length → beTo zs k = beN (zs.take k)
  | 0, _, _ => rfl
  | k + 1, hk, hl => by
    have ih := beTo_num zs h k (by omega) (by omega)
    have hr := beN_range (zs.take k) (h.take k)
    rw [List.length_take, Nat.min_eq_left (by omega)] at hr
    have hp : (256 : Int) ^ k ≤ 256 ^ 7 := by
      rw [pow_nat, pow_nat]
      have := Nat.pow_le_pow_right (n := 2) (by decide) (show 8 * k ≤ 8 * 7 by omega)
      omega
    have hq : (256 : Int) ^ 7 = 72057594037927936 := by decide
    show bits .or .u64 (IntKind.u64.wrap (beTo zs k * 256)) (zs[k]?.getD 0) = _
    rw [ih, take_snoc zs k (by omega), beN_snoc]
    exact or_step _ _ hr.1 (by omega) (h k).1 (h k).2

theorem numBytes_bytes (u : Int) (h0 : 0 ≤ u) (h1 : u < 18446744073709551616) : IsBytes (numBytes u) := by
  unfold numBytes
  split
  · exact IsBytes.one h0 (by omega)
  · have := kOf_le u h1
    exact (IsBytes.one (by omega) (by omega)).append (digits_bytes _ _ _)
theorem numBytes_size (u : Int) : (numBytes u).length = sizeN u := by
  unfold numBytes sizeN
  split
  · rfl
  · rw [List.length_append, digits_length]; rfl
theorem firstOf_numBytes (u : Int) (h0 : 0 ≤ u) (h1 : u < 18446744073709551616) (rest : List Int) (hr : IsBytes rest) : firstOf (numBytes u ++ rest) = (u, sizeN u, 0) := by
  by_cases hu : u ≤ 247
  · have e : numBytes u = [u] := by unfold numBytes; rw [if_pos hu]
    have e2 : sizeN u = 1 := by unfold sizeN; rw [if_pos hu]
    rw [e, e2]
    unfold firstOf
    rw [if_neg (by simp)]
    have e3 : ([u] ++ rest)[0]?.getD 0 = u := rfl
    rw [e3, if_pos hu]
  · obtain ⟨k1, k2, k3⟩ := kOf_bounds u (by omega) h1
    have k8 := kOf_le u h1
    have e : numBytes u = [247 + (kOf u : Int)] ++ digits u (kOf u) (kOf u) := by unfold numBytes; rw [if_neg hu]
    have e2 : sizeN u = 1 + kOf u := by unfold sizeN; rw [if_neg hu]
    rw [e]
    unfold firstOf
    have e3 : ([247 + (kOf u : Int)] ++ digits u (kOf u) (kOf u) ++ rest)[0]?.getD 0 = 247 + (kOf u : Int) := rfl
    have e4 : (247 + (kOf u : Int) - 247).toNat = kOf u := by omega
    have e5 : ([247 + (kOf u : Int)] ++ digits u (kOf u) (kOf u) ++ rest).length = 1 + kOf u + rest.length := by rw [List.length_append, List.length_append, digits_length]; rfl
    have e6 : ([247 + (kOf u : Int)] ++ digits u (kOf u) (kOf u) ++ rest).drop 1 = digits u (kOf u) (kOf u) ++ rest := rfl
    have hb : beTo (digits u (kOf u) (kOf u) ++ rest) (kOf u) = u := by
      rw [beTo_num _ ((digits_bytes _ _ _).append hr) _ k8 (by rw [List.length_append, digits_length]; omega)]
      have : (digits u (kOf u) (kOf u) ++ rest).take (kOf u) = digits u (kOf u) (kOf u) := by
        have := List.take_left (l₁ := digits u (kOf u) (kOf u)) (l₂ := rest)
        rwa [digits_length] at this
      rw [this, digits_all u h0 _ k3]
    rw [e3, e4, e5, e6, hb, if_neg (by omega), if_neg (by omega), if_neg (by omega), if_pos e2, e2]

theorem readN_numBytes (u most : Int) (h0 : 0 ≤ u) (h1 : u < 18446744073709551616) (hm : u ≤ most) (rest : List Int) (hr : IsBytes rest) : readN (numBytes u ++ rest) 0 most = (u, rest, 0) := by
  unfold readN
  rw [firstOf_numBytes u h0 h1 rest hr, if_neg (by simp), if_neg (by simp), if_neg (by show ¬ most < u; omega)]
  show (u, (numBytes u ++ rest).drop (sizeN u), (0 : Int)) = _
  rw [← numBytes_size, List.drop_left]

theorem xor_ones (x : Nat) (h : x < 2 ^ 64) : x ^^^ (2 ^ 64 - 1) = 2 ^ 64 - 1 - x := by rw [Nat.xor_comm]; exact not64 x h
theorem zig_is (n : Int) (h0 : -9223372036854775808 ≤ n) (h1 : n < 9223372036854775808) : zigI n = if n < 0 then -2 * n - 1 else 2 * n := by
  unfold zigI
  by_cases hn : n < 0
  · rw [if_pos hn]
    obtain ⟨m, hm⟩ := Int.eq_ofNat_of_zero_le (show 0 ≤ 18446744073709551616 + 2 * n by omega)
    have e1 : IntKind.u64.wrap (IntKind.u64.wrap n * 2) = (m : Int) := by rw [IntKind.wrap_u64, IntKind.wrap_u64]; omega
    have e2 : IntKind.u64.wrap (n / 9223372036854775808) = ((2 ^ 64 - 1 : Nat) : Int) := by rw [IntKind.wrap_u64]; omega
    rw [e1, e2, bits_xor_u64_nat _ _ (by omega) (by decide), xor_ones m (by omega)]
    omega
  · rw [if_neg hn]
    obtain ⟨m, hm⟩ := Int.eq_ofNat_of_zero_le (show 0 ≤ 2 * n by omega)
    have e1 : IntKind.u64.wrap (IntKind.u64.wrap n * 2) = (m : Int) := by rw [IntKind.wrap_u64, IntKind.wrap_u64]; omega
    have e2 : IntKind.u64.wrap (n / 9223372036854775808) = ((0 : Nat) : Int) := by rw [IntKind.wrap_u64]; omega
    rw [e1, e2, bits_xor_u64_nat _ _ (by omega) (by decide), Nat.xor_zero]
    omega
theorem zag_zig (n : Int) (h0 : -9223372036854775808 ≤ n) (h1 : n < 9223372036854775808) : zagI (zigI n) = n := by
  rw [zig_is n h0 h1]
  unfold zagI
  split <;> split <;> omega
theorem zag_range (u : Int) (h0 : 0 ≤ u) (h1 : u < 18446744073709551616) : -9223372036854775808 ≤ zagI u ∧ zagI u < 9223372036854775808 := by
  unfold zagI
  split <;> omega
theorem zig_zag (u : Int) (h0 : 0 ≤ u) (h1 : u < 18446744073709551616) : zigI (zagI u) = u := by
  have hr := zag_range u h0 h1
  rw [zig_is _ hr.1 hr.2]
  unfold zagI
  split <;> split <;> omega

theorem num_lex : ∀ (xs ys : List Int), IsBytes xs → IsBytes ys → xs.length = ys.length → lexI xs ys = decide (beN xs < beN ys)
  | [], [], _, _, _ => rfl
  | [], _ :: _, _, _, h => by simp at h
  | _ :: _, [], _, _, h => by simp at h
  | a :: x, b :: y, hx, hy, h => by
    have hl : x.length = y.length := by simpa using h
    have ih := num_lex x y hx.tail hy.tail hl
    have rx := beN_range x hx.tail
    have ry := beN_range y hy.tail
    rw [beN_cons, beN_cons, ← hl]
    rw [← hl] at ry
    obtain ⟨Q, hQ⟩ : ∃ Q : Int, Q = 256 ^ x.length := ⟨_, rfl⟩
    rw [← hQ] at rx ry ⊢
    show (decide (a < b) || (a == b && lexI x y)) = _
    rw [ih]
    rcases Int.lt_trichotomy a b with h1 | h1 | h1
    · have : (a + 1) * Q ≤ b * Q := Int.mul_le_mul_of_nonneg_right (by omega) (by omega)
      rw [Int.add_mul] at this
      rw [decide_eq_true h1, Bool.true_or, decide_eq_true (show a * Q + beN x < b * Q + beN y by omega)]
    · subst h1
      rw [decide_eq_false (Int.lt_irrefl a), Bool.false_or, beq_self_eq_true, Bool.true_and]
      exact decide_eq_decide.2 (by omega)
    · have : (b + 1) * Q ≤ a * Q := Int.mul_le_mul_of_nonneg_right (by omega) (by omega)
      rw [Int.add_mul] at this
      rw [decide_eq_false (show ¬ a < b by omega), Bool.false_or, beq_eq_false_iff_ne.2 (show a ≠ b by omega), Bool.false_and, decide_eq_false (show ¬ a * Q + beN x < b * Q + beN y by omega)]

theorem pow_le (a b : Nat) (h : a ≤ b) : (2 : Int) ^ a ≤ 2 ^ b := by
  have := Nat.pow_le_pow_right (n := 2) (by decide) h
  have e1 : ((2 ^ a : Nat) : Int) = 2 ^ a := Int.natCast_pow 2 a
  have e2 : ((2 ^ b : Nat) : Int) = 2 ^ b := Int.natCast_pow 2 b
  omega
theorem numBytes_head (u : Int) (h0 : 0 ≤ u) (h1 : u < 18446744073709551616) :
    (u ≤ 247 ∧ numBytes u = [u]) ∨ (247 < u ∧ 1 ≤ kOf u ∧ numBytes u = (247 + (kOf u : Int)) :: digits u (kOf u) (kOf u) ∧ (2 : Int) ^ (8 * (kOf u - 1)) ≤ u ∧ u < 2 ^ (8 * kOf u)) := by
  by_cases hu : u ≤ 247
  · exact .inl ⟨hu, by unfold numBytes; rw [if_pos hu]⟩
  · obtain ⟨k1, k2, k3⟩ := kOf_bounds u (by omega) h1
    exact .inr ⟨by omega, k1, by unfold numBytes; rw [if_neg hu]; rfl, k2, k3⟩
theorem lex_head (a b : Int) (x y : List Int) (h : a ≠ b) : lexI (a :: x) (b :: y) = decide (a < b) := by
  show (decide (a < b) || (a == b && lexI x y)) = _
  rw [beq_eq_false_iff_ne.2 h, Bool.false_and, Bool.or_false]
theorem order_lt (u v : Int) (h0 : 0 ≤ u) (h1 : u < 18446744073709551616) (g0 : 0 ≤ v) (g1 : v < 18446744073709551616) : lexI (numBytes u) (numBytes v) = decide (u < v) := by
  rcases numBytes_head u h0 h1 with ⟨hu, eu⟩ | ⟨hu, ku, eu, lu, mu⟩ <;> rcases numBytes_head v g0 g1 with ⟨hv, ev⟩ | ⟨hv, kv, ev, lv, mv⟩
  · rw [eu, ev, num_lex [u] [v] (IsBytes.one h0 (by omega)) (IsBytes.one g0 (by omega)) rfl]
    exact decide_eq_decide.2 (by simp [beN])
  · rw [eu, ev, lex_head _ _ _ _ (by omega)]
    exact decide_eq_decide.2 (by omega)
  · rw [eu, ev, lex_head _ _ _ _ (by omega)]
    exact decide_eq_decide.2 (by omega)
  · rw [eu, ev]
    rcases Nat.lt_trichotomy (kOf u) (kOf v) with h | h | h
    · have := pow_le (8 * kOf u) (8 * (kOf v - 1)) (by omega)
      rw [lex_head _ _ _ _ (by omega)]
      exact decide_eq_decide.2 (by omega)
    · show (decide (247 + (kOf u : Int) < 247 + (kOf v : Int)) || (247 + (kOf u : Int) == 247 + (kOf v : Int) && lexI (digits u (kOf u) (kOf u)) (digits v (kOf v) (kOf v)))) = _
      rw [num_lex _ _ (digits_bytes _ _ _) (digits_bytes _ _ _) (by rw [digits_length, digits_length, h]), digits_all u h0 _ mu, digits_all v g0 _ mv, h]
      simp
    · have := pow_le (8 * kOf v) (8 * (kOf u - 1)) (by omega)
      rw [lex_head _ _ _ _ (by omega)]
      exact decide_eq_decide.2 (by omega)
theorem lex_self : ∀ xs : List Int, lexI xs xs = false
  | [] => rfl
  | a :: x => by
    show (decide (a < a) || (a == a && lexI x x)) = false
    rw [lex_self x]; simp
theorem order_eq (u v : Int) (h0 : 0 ≤ u) (h1 : u < 18446744073709551616) (g0 : 0 ≤ v) (g1 : v < 18446744073709551616) : numBytes u = numBytes v ↔ u = v := by
  refine ⟨fun e => ?_, fun e => by rw [e]⟩
  have a1 := order_lt u v h0 h1 g0 g1
  have a2 := order_lt v u g0 g1 h0 h1
  rw [e, lex_self] at a1
  rw [e, lex_self] at a2
  have b1 := of_decide_eq_false a1.symm
  have b2 := of_decide_eq_false a2.symm
  omega
theorem order_begin (u v : Int) (h0 : 0 ≤ u) (h1 : u < 18446744073709551616) (g0 : 0 ≤ v) (g1 : v < 18446744073709551616) (hne : u ≠ v) : (numBytes v).take (numBytes u).length ≠ numBytes u := by
  intro e
  rcases numBytes_head u h0 h1 with ⟨hu, eu⟩ | ⟨hu, ku, eu, lu, mu⟩ <;> rcases numBytes_head v g0 g1 with ⟨hv, ev⟩ | ⟨hv, kv, ev, lv, mv⟩
  · rw [eu, ev] at e
    simp at e
    omega
  · rw [eu, ev] at e
    simp at e
    omega
  · rw [eu, ev] at e
    simp at e
    omega
  · have ek : kOf u = kOf v := by
      rw [eu, ev, List.length_cons, List.take_succ_cons, List.cons.injEq] at e
      omega
    have el : (numBytes u).length = (numBytes v).length := by rw [eu, ev, List.length_cons, List.length_cons, digits_length, digits_length, ek]
    rw [el, List.take_length] at e
    exact hne ((order_eq u v h0 h1 g0 g1).1 e.symm)

end Go.Proofs.Yteedceepoindeaa

namespace Go.Proofs.Yteedceepoindeaa
open Go.RowKit

theorem pen_new (w : World) : PenAt (w.alloc (.cells #[.slice none 0 0] 70)) w.heap.size (.slice none 0 0) [] :=
  ⟨Blk.new w 70 [.slice none 0 0], World.ownsRow_nil _ _ _ _, by simp [Value.ownBlock], fun i => by simp⟩
theorem penTo_own {a b : World} {B : Nat} {v v' : Value} (h : PenTo a b B v v') (hv : v.ownBlock = none) : ∀ g, v'.ownBlock = some g → a.heap.size ≤ g := by
  rcases h.at' with e | e
  · intro g hg; rw [e, hv] at hg; cases hg
  · exact e

end Go.Proofs.Yteedceepoindeaa

namespace Go.Proofs.Yteedceepoindeaa
open Go.RowKit

def eightK (k : Int) (i : Nat) : List Int := (List.range 8).map fun j => if j < i then byteOf k j else 0
def eightL (k : Int) : List Int := eightK k 8
theorem eightK_length (k : Int) (i : Nat) : (eightK k i).length = 8 := by simp [eightK]
theorem eightK_succ (k : Int) (i : Nat) (h : i < 8) : (markL (eightK k i)).set i (.int .u8 (byteOf k i)) = markL (eightK k (i + 1)) := by
  unfold markL eightK
  apply List.ext_getElem?
  intro j
  by_cases hij : i = j
  · subst hij
    rw [List.getElem?_set_self (by simp; omega)]
    simp [h]
  · rw [List.getElem?_set_ne hij]
    simp only [List.map_map, List.getElem?_map]
    rcases Nat.lt_or_ge j 8 with hj | hj
    · rw [List.getElem?_range hj]
      simp only [Option.map_some, Function.comp]
      by_cases h1 : j < i
      · rw [if_pos h1, if_pos (by omega)]
      · rw [if_neg h1, if_neg (by omega)]
    · rw [List.getElem?_eq_none (by simpa using hj)]
      rfl
theorem eightK_bytes (k : Int) (i : Nat) : IsBytes (eightK k i) := IsBytes.of fun z hz => by
  unfold eightK at hz
  obtain ⟨j, _, rfl⟩ := List.mem_map.1 hz
  split
  · unfold byteOf; omega
  · omega
theorem penTo_nb {w w' : World} {B : Nat} {v : Value} (k : Kp Nb w w') : PenTo w w' B v v := ⟨k.mono (fun _ _ h => h.elim), .inl rfl⟩
theorem notPb {w w' : World} {B C : Nat} {v v' : Value} (t : PenTo w w' B v v') (h : Hid (¬ Pb B v C)) (hC : C < w.heap.size) : Hid (¬ Pb B v' C) := hid fun hp => by
  rcases hp with hp | hp
  · exact h.out (.inl hp)
  · rcases t.at' with e | e
    · exact h.out (.inr (by rw [← e]; exact hp))
    · have := e C hp; omega
theorem by_markAt {S : Nat → Prop} {w : World} {B t : Nat} {c : Int} {m : List Int} {k : Int} (h : Blk w B t (cellL c m k)) (hm : MarkOk m) (hS : ¬ S B) : BySl S w (.slice (some ⟨B, 1, none⟩) 16 16) m := by
  refine ⟨hm.bytes, .inr ⟨B, 1, 16, by rw [hm.len], by rw [hm.len]; exact Nat.le_refl _, by decide, fun i hi => ?_, fun _ => hS⟩⟩
  exact cell_m h i _ (markL_get m i hi)
theorem by_eight {S : Nat → Prop} {w : World} {B t : Nat} {k : Int} (h : Blk w B t (markL (eightK k 8))) (hS : ¬ S B) : BySl S w (.slice (some ⟨B, 0, none⟩) 8 8) (eightL k) := by
  refine ⟨eightK_bytes k 8, .inr ⟨B, 0, 8, by unfold eightL; rw [eightK_length], by unfold eightL; rw [eightK_length]; exact Nat.le_refl _, by decide, fun i hi => ?_, fun _ => hS⟩⟩
  rw [Nat.zero_add]
  exact (h.cell i).trans (markL_get _ i hi)
def cellBytes (c : Int) (m : List Int) (k : Int) : List Int := numBytes (zigI c) ++ (m ++ eightL k)

def PutR (wa : World) (D C : Nat) (c : Int) (m : List Int) (k : Int) (i : Value) (wr : World) : Prop :=
  ∃ j : Nat, j ≤ 8 ∧ i = .int .i64 j ∧ Hid (Blk wr D 98 (markL (eightK k j))) ∧ Hid (Blk wr C 41 (cellL c m k)) ∧ Hid (Kp (Jb D) wa wr)
set_option maxRecDepth 100000 in
set_option maxHeartbeats 2000000 in
theorem cput_any (B : Nat) (v : Value) (zs : List Int) (c : Int) (m : List Int) (k : Int) (w : World) (h : PenAt w B v zs) (hm : MarkOk m) (hr : crightB c = true) (hl : zs.length + 64 ≤ 140737488355328) :
    Calls Try.prog 33 #[.pointer (some ⟨B, 0, none⟩), cellV c m k] w fun e w' => e = .returned (.bool true) ∧ ∃ v', PenAt w' B v' (zs ++ cellBytes c m k) ∧ PenTo w w' B v v' := by
  have CR : Hid (∀ w, Calls Try.prog 55 #[cellV c m k] w fun e w' => e = .returned (.bool true) ∧ Kp Nb w w') := hid (fun w => by rw [← hr]; exact cright_any c m k w)
  have HL := hid hl
  have HM := hid hm
  have hBl := h.blk.lt
  have hvl : ∀ g, v.ownBlock = some g → g < w.heap.size := fun g hg => (h.own.lt g hg).2
  have HNP : Hid (¬ Pb B v w.heap.size) := hid (fun hp => by
    rcases hp with hp | hp
    · omega
    · exact absurd (hvl _ hp) (Nat.lt_irrefl _))
  obtain ⟨W, hW⟩ : ∃ W, W = w.alloc (.cells (cellL c m k).toArray 41) := ⟨_, rfl⟩
  have k0 : Kp Nb w W := by rw [hW]; exact (Kp.refl Nb w).alloc _
  have HP := hid (h.kept k0 (fun h => h) (fun _ _ h => h))
  have HC : Hid (Blk W w.heap.size 41 (cellL c m k)) := hid (by rw [hW]; exact Blk.new w _ _)
  have TP := hid (penTo_nb (B := B) (v := v) k0)
  have K0 := hid k0
  obtain ⟨d', hu, hd⟩ := cell_under
  have HU := hid hu
  have HI := hid (cell_infoL c m k hm.len)
  clear h hm hr hl hBl hvl k0 hu
  go_enter Try.func33, Try.ntmps33
  go_upto_region 1 with fail
  rw [← hW]
  clear hW
  go_wp2_with (refine wpList_load_mid (by rfl) 41 (.tmp 3) (by rfl) w.heap.size 0 (by rfl) (cellL c m k) d' (range_of HC.out) HU.out hd HI.out ?_)
  refine (CR.out _).mono ?_
  rintro e w1 ⟨rfl, k1⟩
  have HP1 := hid (HP.out.kept k1 (fun h => h) (fun _ _ h => h))
  have HC1 := hid (HC.out.kept k1 (fun h => h))
  have TP1 := hid (TP.out.trans (penTo_nb k1))
  have c0 := cell_c HC1.out
  clear k1 HP HC TP
  go_wp2_with fail
  refine (pen_signed B v zs c _ HP1.out (by have := HL.out; omega)).mono ?_
  rintro e w2 ⟨rfl, v2, h2, t2⟩
  have HP2 := hid h2
  have HC2 := hid (HC1.out.kept t2.kp HNP.out)
  have TP2 := hid (TP1.out.trans t2)
  have HNP2 := notPb t2 HNP HC1.out.lt
  clear h2 t2 HP1 HC1 TP1 c0 HNP
  have hnl := numBytes_length (zigI c) (by unfold zigI bits; show IntKind.u64.wrap _ < _; rw [IntKind.wrap_u64]; omega)
  have HNL := hid hnl
  clear hnl
  go_wp2_with fail
  refine (pen_fixed (S := Nb) B v2 _ _ m _ HP2.out (by_markAt HC2.out HM.out (fun h => h)) (by have := HL.out; have := HM.out.len; have := HNL.out; rw [List.length_append]; omega)).mono ?_
  rintro e w3 ⟨rfl, v3, h3, t3⟩
  have HP3 := hid h3
  have HC3 := hid (HC2.out.kept t3.kp HNP2.out)
  have TP3 := hid (TP2.out.trans t3)
  have HNP3 := notPb t3 HNP2 HC2.out.lt
  clear h3 t3 HP2 HC2 TP2 HNP2
  have HD := hid (Blk.new w3 98 (markL (eightK k 0)))
  have KD := hid ((Kp.refl Nb w3).alloc (.cells (markL (eightK k 0)).toArray 98))
  have HC4 := hid (HC3.out.kept KD.out (fun h => h))
  have HP4 := hid (HP3.out.kept KD.out (fun h => h) (fun _ _ h => h))
  have hD : Hid (w3.heap.size ≠ w.heap.size) := hid (by have := HC3.out.lt; omega)
  have HBD : Hid (¬ Jb w3.heap.size B) := hid (fun h => by have h' : B = w3.heap.size := h; have := HP3.out.lt; omega)
  have HVD : Hid (∀ g, v3.ownBlock = some g → ¬ Jb w3.heap.size g) := hid (fun g hg h => by have h' : g = w3.heap.size := h; have := (HP3.out.own.lt g hg).2; omega)
  obtain ⟨D, hDD⟩ : ∃ D, w3.heap.size = D := ⟨_, rfl⟩
  rw [hDD] at HD hD HBD HVD
  have HDD := hid hDD
  go_wp2
  clear hDD
  obtain ⟨wa, hwa⟩ : ∃ wa, wa = w3.alloc (.cells (markL (eightK k 0)).toArray 98) := ⟨_, rfl⟩
  rw [← hwa] at HD KD HC4 HP4
  rw [show w3.alloc (.cells #[.int .u8 0, .int .u8 0, .int .u8 0, .int .u8 0, .int .u8 0, .int .u8 0, .int .u8 0, .int .u8 0] 98) = wa from hwa.symm]
  clear hwa
  go_loopw [18] (fun i wr => PutR wa D w.heap.size c m k i wr) (fun i _ => 8 - (intOf i).toNat)
  case atStart => exact ⟨0, by omega, rfl, HD, HC4, hid (Kp.refl _ _)⟩
  case round =>
    obtain ⟨j, hj, rfl, HX, HCR, HK⟩ := hrel
    by_cases hlt : j < 8
    · have c0 := cell_k HM.out.len HCR.out
      have c1 := (HX.out.cell j).trans (markL_get _ j (by rw [eightK_length]; exact hlt))
      have f1 := HX.out.frozen j
      have hsh : (0 : Int) ≤ 56 - 8 * (j : Int) := by omega
      have HXN : Hid (Blk (wr.setCell ⟨D, j, none⟩ (.int .u8 (byteOf k j))) D 98 (markL (eightK k (j + 1)))) := hid (by rw [← eightK_succ k j hlt]; exact HX.out.set j _)
      have HCN := hid (HCR.out.other ⟨D, j, none⟩ (fun e => hD.out e.symm) (.int .u8 (byteOf k j)))
      have HKN := hid (HK.out.set j (.int .u8 (byteOf k j)))
      go_wp2
      go_roundw
      case rel => exact ⟨j + 1, by omega, by go_num, HXN, HCN, HKN⟩
      case measure => simp [intOf]; omega
    · obtain rfl : j = 8 := by omega
      have HP5 := hid (HP4.out.kept HK.out HBD.out HVD.out)
      have HK5 : Hid (Kp Nb w3 wr) := hid (KD.out.trans HK.out (fun i hi h => by have h' : i = D := h; have := HDD.out; omega))
      have TP5 := hid (TP3.out.trans (penTo_nb HK5.out))
      go_wp2_with fail
      refine (pen_fixed (S := Nb) B v3 _ _ (eightL k) _ HP5.out (by_eight HX.out (fun h => h)) (by have := HL.out; have := HM.out.len; have := HNL.out; simp only [List.length_append, eightL, eightK_length]; omega)).mono ?_
      rintro e w6 ⟨rfl, v6, h6, t6⟩
      have HP6 := hid h6
      have TP6 := hid (TP5.out.trans t6)
      clear h6 t6
      go_wp2
      go_ret
      exact ⟨rfl, v6, by have h := HP6.out; unfold cellBytes; rw [List.append_assoc, List.append_assoc] at h; exact h, TP6.out⟩

end Go.Proofs.Yteedceepoindeaa
