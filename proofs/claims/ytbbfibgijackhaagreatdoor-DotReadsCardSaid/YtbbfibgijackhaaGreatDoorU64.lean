/-
  Plain facts on unsigned numbers of 64 and 8 bits, in the spelling in which the walk leaves them. Nothing of the program is named here. No condition.
-/
import Derived.WalkKit
namespace Go.Proofs.YtbbfibgijackhaaGreatDoor
open Go.RowKit

theorem u64_lt (a : UInt64) : (a.toNat : Int) < 18446744073709551616 := by have := a.toNat_lt; omega
theorem u64_nonneg (a : UInt64) : (0 : Int) ≤ (a.toNat : Int) := by omega
theorem u8_lt (a : UInt8) : (a.toNat : Int) < 256 := by have := a.toNat_lt; omega

theorem u64_add (a b : UInt64) : IntKind.u64.wrap ((a.toNat : Int) + (b.toNat : Int)) = ((a + b).toNat : Int) := by
  rw [IntKind.wrap_u64, UInt64.toNat_add]; omega
theorem u64_add' (a b : UInt64) : ((a.toNat : Int) + (b.toNat : Int)) % 18446744073709551616 = ((a + b).toNat : Int) := by
  rw [UInt64.toNat_add]; omega
theorem u64_sub (a b : UInt64) : IntKind.u64.wrap ((a.toNat : Int) - (b.toNat : Int)) = ((a - b).toNat : Int) := by
  have ha := a.toNat_lt; have hb := b.toNat_lt
  rw [IntKind.wrap_u64, UInt64.toNat_sub]; omega
theorem u64_xor (a b : UInt64) : bits .xor .u64 (a.toNat : Int) (b.toNat : Int) = ((a ^^^ b).toNat : Int) := by
  rw [bits_xor_u64_nat _ _ a.toNat_lt b.toNat_lt, UInt64.toNat_xor]
theorem u64_or (a b : UInt64) : bits .or .u64 (a.toNat : Int) (b.toNat : Int) = ((a ||| b).toNat : Int) := by
  rw [bits_or_u64_nat _ _ a.toNat_lt b.toNat_lt, UInt64.toNat_or]
theorem u64_and (a b : UInt64) : bits .and .u64 (a.toNat : Int) (b.toNat : Int) = ((a &&& b).toNat : Int) := by
  rw [bits_and_u64_nat _ _ a.toNat_lt b.toNat_lt, UInt64.toNat_and]
theorem u64_count (k : Nat) (hk : k < 64) : (UInt64.ofNat k).toNat % 64 = k := by
  rw [UInt64.toNat_ofNat', Nat.mod_eq_of_lt (Nat.lt_trans hk (by decide)), Nat.mod_eq_of_lt hk]
theorem u64_shl_nat (a : UInt64) (k : Nat) (hk : k < 64) : (a <<< (UInt64.ofNat k)).toNat = a.toNat * 2 ^ k % 18446744073709551616 := by
  rw [UInt64.toNat_shiftLeft, u64_count k hk, Nat.shiftLeft_eq]
theorem u64_shr_nat (a : UInt64) (k : Nat) (hk : k < 64) : (a >>> (UInt64.ofNat k)).toNat = a.toNat / 2 ^ k := by
  rw [UInt64.toNat_shiftRight, u64_count k hk, Nat.shiftRight_eq_div_pow]
/-- A shift to the left by k below 64, as the walk has it. -/
theorem u64_shl (a : UInt64) (k m : Nat) (hk : k < 64) (hm : m = 2 ^ k) : IntKind.u64.wrap ((a.toNat : Int) * (m : Int)) = ((a <<< (UInt64.ofNat k)).toNat : Int) := by
  rw [IntKind.wrap_u64, u64_shl_nat a k hk, hm, ← Int.natCast_mul]
  exact (Int.natCast_emod _ 18446744073709551616).symm
theorem u64_shr (a : UInt64) (k m : Nat) (hk : k < 64) (hm : m = 2 ^ k) : ((a.toNat : Int) / (m : Int)) = ((a >>> (UInt64.ofNat k)).toNat : Int) := by
  rw [u64_shr_nat a k hk, hm, ← Int.natCast_ediv]

end Go.Proofs.YtbbfibgijackhaaGreatDoor
