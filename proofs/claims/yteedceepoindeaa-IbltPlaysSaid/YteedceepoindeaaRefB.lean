/-
  Walks of the document's own answer for layer 1: Seed. No condition.
-/
import Derived.Test.YteedceepoindeaaRefA
import Derived.Test.YteedceepoindeaaSipD
namespace Go.Proofs.Yteedceepoindeaa
open Go.RowKit

theorem not64 (x : Nat) (h : x < 2 ^ 64) : (2 ^ 64 - 1) ^^^ x = 2 ^ 64 - 1 - x := by
  have e := congrArg BitVec.toNat (BitVec.allOnes_xor (x := BitVec.ofNat 64 x))
  rw [BitVec.toNat_xor, BitVec.toNat_not, BitVec.toNat_allOnes, BitVec.toNat_ofNat, Nat.mod_eq_of_lt h] at e
  exact e

theorem bits_not64 (x : Int) (h0 : 0 ≤ x) (h1 : x < 18446744073709551616) : bits .xor .u64 IntKind.u64.max x = IntKind.u64.wrap (18446744073709551615 - x) := by
  obtain ⟨k, rfl⟩ := Int.eq_ofNat_of_zero_le h0
  have hk : k < 2 ^ 64 := by omega
  unfold bits
  have e1 : (BitVec.ofInt IntKind.u64.bits IntKind.u64.max).toNat = 2 ^ 64 - 1 := by decide +kernel
  have e2 : (BitVec.ofInt IntKind.u64.bits (k : Int)).toNat = k := by
    show (BitVec.ofInt 64 (k : Int)).toNat = k
    rw [BitVec.toNat_ofInt]
    omega
  have e3 : (BitVec.ofInt IntKind.u64.bits IntKind.u64.max ^^^ BitVec.ofInt IntKind.u64.bits (k : Int)).toNat = 2 ^ 64 - 1 - k := by
    rw [BitVec.toNat_xor, e2, e1]
    exact not64 k hk
  show IntKind.u64.wrap ((BitVec.ofInt IntKind.u64.bits IntKind.u64.max ^^^ BitVec.ofInt IntKind.u64.bits (k : Int)).toNat : Int) = _
  rw [e3]
  congr 1
  omega

theorem wrap_u64 (n : Int) : IntKind.u64.wrap n = n % 18446744073709551616 := rfl

set_option maxHeartbeats 400000 in
theorem ref_seed (n : Int) (w : World) :
    Calls Try.prog 41 #[.int .i64 n] w fun e w' => e = .returned (.agg #[.int .u64 (seedA n), .int .u64 (seedB n)]) ∧ Kp Nb w w' := by
  have hb : seedB n = IntKind.u64.wrap (18446744073709551615 - IntKind.u64.wrap n) := bits_not64 _ (by rw [wrap_u64]; omega) (by rw [wrap_u64]; omega)
  rw [hb]
  go_enter Try.func41, Try.ntmps41
  go_wp2
  exact bodyPost_ret (v := .agg #[.int .u64 (seedA n), .int .u64 (IntKind.u64.wrap (18446744073709551615 - IntKind.u64.wrap n))]) (by simp [results, Try.results41, go_sem]; rfl) rfl ⟨rfl, (Kp.refl Nb w).alloc _⟩

end Go.Proofs.Yteedceepoindeaa
