/-
  Plain functions for the document's own sum of layer 1: padded bytes in words of eight, each the same number as the program's. Nothing of the program is named here. No condition.
-/
import Derived.Test.YtbbfibgijackhaaGreatDoorSipPlain
namespace Go.Proofs.YtbbfibgijackhaaGreatDoor
open Go.RowKit

def num : List Int → Int
  | [] => 0
  | x :: r => x + 256 * num r

theorem num_cons (x : Int) (r : List Int) : num (x :: r) = x + 256 * num r := rfl
theorem IsBytes.tail {x : Int} {r : List Int} (h : IsBytes (x :: r)) : IsBytes r := fun i => h (i + 1)
theorem IsBytes.head {x : Int} {r : List Int} (h : IsBytes (x :: r)) : 0 ≤ x ∧ x < 256 := h 0

theorem num_append (xs ys : List Int) : num (xs ++ ys) = num xs + 256 ^ xs.length * num ys := by
  induction xs with
  | nil => simp [num]
  | cons x r ih => rw [List.cons_append, num_cons, num_cons, ih, List.length_cons, Int.pow_succ, Int.mul_comm (256 ^ r.length) 256, Int.mul_assoc, Int.mul_add]; omega
theorem num_nonneg : ∀ xs : List Int, IsBytes xs → 0 ≤ num xs
  | [], _ => Int.le_refl 0
  | x :: r, h => by have := num_nonneg r h.tail; have := h.head; rw [num_cons]; omega
theorem num_lt : ∀ xs : List Int, IsBytes xs → num xs < 256 ^ xs.length
  | [], _ => by decide
  | x :: r, h => by have := num_lt r h.tail; have := h.head; rw [num_cons, List.length_cons, Int.pow_succ]; omega
theorem num_zeros (k : Nat) : num (List.replicate k 0) = 0 := by
  induction k with
  | zero => rfl
  | succ k ih => rw [List.replicate_succ, num_cons, ih]; rfl
theorem IsBytes.take {zs : List Int} (h : IsBytes zs) (k : Nat) : IsBytes (zs.take k) := by
  intro i
  rw [List.getElem?_take]
  split
  · exact h i
  · simp

theorem or_add (a x : Nat) (k : Nat) (ha : a < 2 ^ (8 * k)) (hx : x < 256) (hk : k < 8) :
    bits .or .u64 (a : Int) (IntKind.u64.wrap ((x : Int) * 2 ^ (8 * k))) = ((a + x * 2 ^ (8 * k) : Nat) : Int) := by
  have hp : 2 ^ (8 * k) ≤ 2 ^ 56 := Nat.pow_le_pow_right (by decide) (by omega)
  have hxp : x * 2 ^ (8 * k) < 2 ^ 64 := by
    calc x * 2 ^ (8 * k) ≤ 255 * 2 ^ 56 := Nat.mul_le_mul (by omega) hp
      _ < 2 ^ 64 := by decide
  have e : ((x : Int) * 2 ^ (8 * k)) = ((x * 2 ^ (8 * k) : Nat) : Int) := by push_cast; rfl
  have e2 : IntKind.u64.wrap ((x * 2 ^ (8 * k) : Nat) : Int) = ((x * 2 ^ (8 * k) : Nat) : Int) := by
    rw [IntKind.wrap_u64]; omega
  rw [e, e2, bits_or_u64_nat a _ (Nat.lt_of_lt_of_le ha (Nat.le_trans hp (by decide))) hxp]
  congr 1
  have := Nat.shiftLeft_add_eq_or_of_lt ha x
  rw [Nat.shiftLeft_eq] at this
  rw [Nat.or_comm, ← this, Nat.add_comm]

theorem pow_nat (n : Nat) : (256 : Int) ^ n = ((2 ^ (8 * n) : Nat) : Int) := by
  have e : (2 : Nat) ^ (8 * n) = 256 ^ n := by rw [Nat.pow_mul]
  rw [e, Int.natCast_pow]; rfl

theorem or_num (xs : List Int) (x : Int) (k : Nat) (h : IsBytes xs) (hl : xs.length = k) (h0 : 0 ≤ x) (h1 : x < 256) (hk : k < 8) :
    bits .or .u64 (num xs) (IntKind.u64.wrap (x * 2 ^ (8 * k))) = num xs + 256 ^ k * x := by
  have hn := num_nonneg xs h
  have hb := num_lt xs h
  rw [hl, pow_nat] at hb
  obtain ⟨a, ha⟩ := Int.eq_ofNat_of_zero_le hn
  obtain ⟨y, rfl⟩ := Int.eq_ofNat_of_zero_le h0
  rw [ha] at hb ⊢
  rw [pow_nat]
  refine (or_add a y k (by omega) (by omega) hk).trans ?_
  push_cast
  rw [Int.mul_comm]

theorem loadTo_num (zs : List Int) (h : IsBytes zs) : ∀ k, k ≤ 8 → k ≤ zs.length → loadTo zs k = num (zs.take k)
  | 0, _, _ => rfl
  | k + 1, hk, hl => by
    rw [take_snoc zs k (by omega), num_append, List.length_take, Nat.min_eq_left (by omega)]
    show bits .or .u64 (loadTo zs k) _ = _
    rw [loadTo_num zs h k (by omega) (by omega), or_num (zs.take k) _ k (h.take k) (by rw [List.length_take]; omega) (h k).1 (h k).2 (by omega)]
    simp [num]

/-- The bytes that the document's sum goes through: zeros up to seven behind whole words, and how many bytes there are. -/
def padded (zs : List Int) : List Int := zs ++ (List.replicate (7 - zs.length % 8) 0 ++ [((zs.length : Int) % 256)])

theorem padded_length (zs : List Int) : (padded zs).length = 8 * (zs.length / 8 + 1) := by
  unfold padded
  simp only [List.length_append, List.length_replicate, List.length_cons, List.length_nil]
  omega

theorem IsBytes.append {xs ys : List Int} (h : IsBytes xs) (g : IsBytes ys) : IsBytes (xs ++ ys) := by
  intro i
  rw [List.getElem?_append]
  split
  · exact h i
  · exact g _
theorem IsBytes.zeros (k : Nat) : IsBytes (List.replicate k 0) := by
  intro i
  rw [List.getElem?_replicate]
  split <;> simp
theorem IsBytes.one {x : Int} (h0 : 0 ≤ x) (h1 : x < 256) : IsBytes [x] := by
  intro i
  match i with
  | 0 => exact ⟨h0, h1⟩
  | i + 1 => simp
theorem padded_bytes {zs : List Int} (h : IsBytes zs) : IsBytes (padded zs) := h.append ((IsBytes.zeros _).append (IsBytes.one (by omega) (by omega)))

theorem num_step (ys : List Int) (hb : IsBytes ys) (hl : ys.length = 8) (i : Nat) (hi : i < 8) :
    IntKind.u64.wrap (IntKind.u64.wrap (num (ys.drop (i + 1)) * 256) + ys[i]?.getD 0) = num (ys.drop i) := by
  have hd : ys.drop i = ys[i]?.getD 0 :: ys.drop (i + 1) := by
    rw [List.drop_eq_getElem_cons (by omega), List.getElem?_eq_getElem (by omega)]; rfl
  have hn := num_nonneg _ (hb.drop (i + 1))
  have hlt := num_lt _ (hb.drop (i + 1))
  have hx := hb i
  rw [List.length_drop, hl] at hlt
  have hp : (256 : Int) ^ (8 - (i + 1)) ≤ 256 ^ 7 := by
    rw [pow_nat, pow_nat]
    have := Nat.pow_le_pow_right (n := 2) (by decide) (show 8 * (8 - (i + 1)) ≤ 8 * 7 by omega)
    omega
  have hq : (256 : Int) ^ 7 = 72057594037927936 := by decide
  rw [hd, num_cons, IntKind.wrap_u64, IntKind.wrap_u64]
  omega

def V4.word (v : V4) (x : Int) : V4 :=
  let u := rnds 2 { v with d := bits .xor .u64 v.d x }
  { u with a := bits .xor .u64 u.a x }
theorem word_v (s : Sp) (x : Int) : (s.word x).v = s.v.word x := rfl

/-- The four numbers when j words are over. -/
def atWord (a b : Int) (zs : List Int) (j : Nat) : V4 :=
  if 8 * j ≤ zs.length then ((Sp.init a b).write (zs.take (8 * j))).v else (((Sp.init a b).write zs).word ((Sp.init a b).write zs).tail).v

theorem tail_num (a b : Int) (zs : List Int) (h : IsBytes zs) (q : Nat) (hq : q = 8 * (zs.length / 8)) :
    ((Sp.init a b).write zs).tail = num ((padded zs).drop q) := by
  have hr : zs.length - q < 8 := by omega
  have hw : (Sp.init a b).write zs = ((Sp.init a b).write (zs.take q)).write (zs.drop q) := by rw [← Sp.write_append, List.take_append_drop]
  have hn : ((Sp.init a b).write (zs.take q)).n = q := by rw [Sp.write_n, List.length_take]; show 0 + _ = q; omega
  have ho : ((Sp.init a b).write (zs.take q)).rest = 0 := Sp.write_ok _ _ (Sp.init_ok a b) (by rw [hn]; omega)
  have hdl : (zs.drop q).length = zs.length - q := List.length_drop
  obtain ⟨ys, hys⟩ : ∃ ys, ys = zs.drop q ++ List.replicate 8 0 := ⟨_, rfl⟩
  have hyl : 8 ≤ ys.length := by rw [hys]; simp
  have hyt : ys.take (zs.length - q) = zs.drop q := by rw [hys, ← hdl, List.take_left]
  have hyb : IsBytes ys := by rw [hys]; exact (h.drop q).append (IsBytes.zeros 8)
  have hf := Sp.write_few ((Sp.init a b).write (zs.take q)) ys hyl (by rw [hn]; omega) ho (zs.length - q) hr
  rw [hyt] at hf
  rw [hw, hf]
  unfold Sp.tail
  have e1 : (((((Sp.init a b).write (zs.take q)).left (loadTo ys (zs.length - q))).count (zs.length - q)).rest) = num (zs.drop q) := by
    show loadTo ys (zs.length - q) = _
    rw [loadTo_num ys hyb _ (by omega) (by omega), hyt]
  have e2 : (((((Sp.init a b).write (zs.take q)).left (loadTo ys (zs.length - q))).count (zs.length - q)).n) = zs.length := by
    show ((Sp.init a b).write (zs.take q)).n + (zs.length - q) = _
    rw [hn]; omega
  rw [e1, e2]
  have e3 : IntKind.u64.wrap ((zs.length : Int) * 72057594037927936) = IntKind.u64.wrap (((zs.length : Int) % 256) * 2 ^ (8 * 7)) := by
    rw [IntKind.wrap_u64, IntKind.wrap_u64]
    have : (2 : Int) ^ (8 * 7) = 72057594037927936 := by decide
    rw [this]
    omega
  have hpd : (padded zs).drop q = (zs.drop q ++ List.replicate (7 - zs.length % 8) 0) ++ [((zs.length : Int) % 256)] := by
    unfold padded
    rw [List.drop_append_of_le_length (by omega), List.append_assoc]
  have e4 : num (zs.drop q) = num (zs.drop q ++ List.replicate (7 - zs.length % 8) 0) := by rw [num_append, num_zeros]; omega
  rw [e3, hpd, num_append, e4, or_num _ _ 7 ((h.drop q).append (IsBytes.zeros _)) (by simp only [List.length_append, List.length_replicate, hdl]; omega) (by omega) (by omega) (by decide)]
  have e5 : (zs.drop q ++ List.replicate (7 - zs.length % 8) (0 : Int)).length = 7 := by simp only [List.length_append, List.length_replicate, hdl]; omega
  rw [e5]
  simp [num]

theorem word_step (a b : Int) (zs : List Int) (h : IsBytes zs) (j : Nat) (hj : j < zs.length / 8 + 1) :
    (atWord a b zs j).word (num (((padded zs).drop (8 * j)).take 8)) = atWord a b zs (j + 1) := by
  unfold atWord
  rw [if_pos (by omega)]
  by_cases hlt : 8 * (j + 1) ≤ zs.length
  · rw [if_pos hlt]
    have e : ((padded zs).drop (8 * j)).take 8 = (zs.drop (8 * j)).take 8 := by
      unfold padded
      rw [List.drop_append_of_le_length (by omega), List.take_append_of_le_length (by rw [List.length_drop]; omega)]
    rw [e, ← loadTo_num (zs.drop (8 * j)) (h.drop _) 8 (by omega) (by rw [List.length_drop]; omega), ← word_v]
    have := Sp.step_eight (Sp.init a b) zs (8 * j) zs.length rfl (Sp.init_ok a b) (by omega) (by show (0 + 8 * j) % 8 = 0; omega)
    have h2 := congrArg Sp.v this
    exact h2
  · rw [if_neg hlt]
    have hq : 8 * j = 8 * (zs.length / 8) := by omega
    have hd := tail_num a b zs h (8 * j) hq
    have e : ((padded zs).drop (8 * j)).take 8 = (padded zs).drop (8 * j) := by
      apply List.take_of_length_le
      rw [List.length_drop, padded_length]; omega
    rw [e, ← hd, ← word_v]
    by_cases hx : 8 * j = zs.length
    · have e1 : zs.take (8 * j) = zs := by rw [hx]; exact List.take_length
      rw [e1]
    · have hw : (Sp.init a b).write zs = ((Sp.init a b).write (zs.take (8 * j))).write (zs.drop (8 * j)) := by rw [← Sp.write_append, List.take_append_drop]
      have hn : ((Sp.init a b).write (zs.take (8 * j))).n = 8 * j := by rw [Sp.write_n, List.length_take]; show 0 + _ = 8 * j; omega
      have ho : ((Sp.init a b).write (zs.take (8 * j))).rest = 0 := Sp.write_ok _ _ (Sp.init_ok a b) (by rw [hn]; omega)
      have hdl : (zs.drop (8 * j)).length = zs.length - 8 * j := List.length_drop
      have hf := Sp.write_few ((Sp.init a b).write (zs.take (8 * j))) (zs.drop (8 * j) ++ List.replicate 8 0) (by simp) (by rw [hn]; omega) ho (zs.length - 8 * j) (by omega)
      rw [← hdl, List.take_left] at hf
      have hv : ((Sp.init a b).write zs).v = ((Sp.init a b).write (zs.take (8 * j))).v := by rw [hw, hf]; rfl
      rw [word_v, word_v, hv]

theorem word_last (a b : Int) (zs : List Int) : atWord a b zs (zs.length / 8 + 1) = (((Sp.init a b).write zs).word ((Sp.init a b).write zs).tail).v := by
  unfold atWord; rw [if_neg (by omega)]
theorem word_first (a b : Int) (zs : List Int) : atWord a b zs 0 = (Sp.init a b).v := by
  unfold atWord; rw [if_pos (by omega)]; rfl

def V4.last (v : V4) : V4 := rnds 4 { v with c := bits .xor .u64 v.c 255 }
def V4.out (v : V4) : Int := bits .xor .u64 (bits .xor .u64 (bits .xor .u64 v.a v.b) v.c) v.d
theorem hash_ref (a b : Int) (zs : List Int) : hash a b zs = (atWord a b zs (zs.length / 8 + 1)).last.out := by
  rw [word_last]; rfl

end Go.Proofs.YtbbfibgijackhaaGreatDoor
