/-
  Plain: a number of 64 bits put together again out of its eight bytes. No condition but its range.
-/
import Derived.Test.YtfbpaakgifnmaaaSipPlain
namespace Go.Proofs.Ytfbpaakgifnmaaa
open Go.RowKit

def asm (h : Int) : Nat → Int
  | 0 => 0
  | k + 1 => bits .or .u64 (IntKind.u64.wrap (asm h k * 256)) (byteOf h k)

theorem or_byte (X b : Nat) (hX : X < 2 ^ 56) (hb : b < 256) : bits .or .u64 (IntKind.u64.wrap ((X : Int) * 256)) (b : Int) = ((X * 256 + b : Nat) : Int) := by
  have e : IntKind.u64.wrap ((X : Int) * 256) = ((X * 256 : Nat) : Int) := by
    have e0 : ((X * 256 : Nat) : Int) = (X : Int) * 256 := by rw [Int.natCast_mul]; rfl
    rw [IntKind.wrap_u64, e0]; omega
  rw [e, bits_or_u64_nat _ _ (by omega) (by omega)]
  congr 1
  have := Nat.shiftLeft_add_eq_or_of_lt (show b < 2 ^ 8 from hb) X
  rw [Nat.shiftLeft_eq] at this
  exact this.symm

theorem asm_nat (H : Nat) : ∀ k, k ≤ 8 → H < 18446744073709551616 → asm (H : Int) k = ((H / 2 ^ (64 - 8 * k) : Nat) : Int)
  | 0, _, h => by
    rw [Nat.div_eq_of_lt (by exact h)]; rfl
  | k + 1, hk, h => by
    have hb : byteOf (H : Int) k = ((H / 2 ^ (56 - 8 * k) % 256 : Nat) : Int) := by unfold byteOf; rw [Int.natCast_emod, Int.natCast_ediv, Int.natCast_pow]; rfl
    have e1 : 64 - 8 * (k + 1) = 56 - 8 * k := by omega
    have e2 : H / 2 ^ (64 - 8 * k) = H / 2 ^ (56 - 8 * k) / 256 := by
      rw [Nat.div_div_eq_div_mul, show (256 : Nat) = 2 ^ 8 from rfl, ← Nat.pow_add]
      congr 2; omega
    have hX : H / 2 ^ (64 - 8 * k) < 2 ^ 56 := by
      have h1 : H / 2 ^ (64 - 8 * k) ≤ H / 2 ^ 8 := Nat.div_le_div_left (Nat.pow_le_pow_right (by decide) (by omega)) (by decide)
      have h2 : H / 2 ^ 8 < 2 ^ 56 := by omega
      omega
    unfold asm
    rw [asm_nat H k (by omega) h, hb, or_byte _ _ hX (Nat.mod_lt _ (by decide)), e1, e2]
    congr 1
    omega

theorem asm_eight (h : Int) (h0 : 0 ≤ h) (h1 : h < 18446744073709551616) : asm h 8 = h := by
  obtain ⟨H, rfl⟩ := Int.eq_ofNat_of_zero_le h0
  rw [asm_nat H 8 (by decide) (by omega)]
  simp

theorem hash_range (a b : Int) (zs : List Int) : 0 ≤ hash a b zs ∧ hash a b zs < 18446744073709551616 := by
  unfold hash Sp.sum Sp.out
  refine ⟨bits_lo_u64 _ _ _, ?_⟩
  have := bits_hi_u64 .xor (bits .xor .u64 (bits .xor .u64 (((((Sp.init a b).write zs).word ((Sp.init a b).write zs).tail).xorC 255).rounds 4).v.a (((((Sp.init a b).write zs).word ((Sp.init a b).write zs).tail).xorC 255).rounds 4).v.b) (((((Sp.init a b).write zs).word ((Sp.init a b).write zs).tail).xorC 255).rounds 4).v.c) (((((Sp.init a b).write zs).word ((Sp.init a b).write zs).tail).xorC 255).rounds 4).v.d
  omega

theorem byteOf_range (h : Int) (k : Nat) : 0 ≤ byteOf h k ∧ byteOf h k < 256 := by unfold byteOf; omega
def halfOf (zs : List Int) (i : Nat) : Int := if i = 0 then markA zs else markB zs
theorem halfOf_range (zs : List Int) (i : Nat) : 0 ≤ halfOf zs i ∧ halfOf zs i < 18446744073709551616 := by
  unfold halfOf; split
  · exact hash_range _ _ _
  · exact hash_range _ _ _
theorem halfOf_hash (zs : List Int) (i : Nat) (hi : i < 2) : hash (seedA ((i : Int) + 1)) (seedB ((i : Int) + 1)) zs = halfOf zs i := by
  rcases (show i = 0 ∨ i = 1 by omega) with rfl | rfl
  · have e : (((0 : Nat) : Int) + 1) = 1 := by decide
    unfold halfOf markA
    rw [e, if_pos rfl]
  · have e : (((1 : Nat) : Int) + 1) = 2 := by decide
    unfold halfOf markB
    rw [e, if_neg (by decide)]

end Go.Proofs.Ytfbpaakgifnmaaa
