/-
  Layer 11: walks of Places and of the reference's Places. Conditions: a mark has sixteen bytes; a size that may be. (Printed by gen_ib.py.)
-/
import Derived.Test.YtpgiinogfmhfiaaIbB
namespace Go.Proofs.Ytpgiinogfmhfiaa
open Go.RowKit

/-- The hash of places, and the places: three thirds, one in each. -/
def hs4 (m : List Int) : Int := hash (seedA 4) (seedB 4) m
def plc (t : Nat) (m : List Int) (i : Nat) : Nat := i * t + (hs4 m / 2097152 ^ i % 2097152).toNat % t
theorem plc_lt (t : Nat) (m : List Int) (i : Nat) (ht : 0 < t) (hi : i < 3) : plc t m i < 3 * t := by
  unfold plc
  have h := Nat.mod_lt ((hs4 m / 2097152 ^ i % 2097152).toNat) ht
  have h2 : i * t ≤ 2 * t := Nat.mul_le_mul_right t (by omega)
  omega
theorem hs4_range (m : List Int) : 0 ≤ hs4 m ∧ hs4 m < 18446744073709551616 := x64_rng _ _
/-- The first k places, as an array. -/
def plcL (t : Nat) (m : List Int) (k : Nat) : List Value := [.int .i64 (if 0 < k then (plc t m 0 : Int) else 0), .int .i64 (if 1 < k then (plc t m 1 : Int) else 0), .int .i64 (if 2 < k then (plc t m 2 : Int) else 0)]
abbrev plcV (t : Nat) (m : List Int) : Value := .agg (plcL t m 3).toArray
/-- The region that hashes a mark: the made list of lists is the ghost. -/
structure HmS (W : World) (m : List Int) (bs : List Bool) (g : Nat) (w : World) : Prop where
  kp : Kp Nb W w
  sl : bs[0]?.getD false = true → PsSl w (.slice (some ⟨g, 0, none⟩) 1 1) [m]
theorem HmS.keptN {W : World} {m : List Int} {bs : List Bool} {g : Nat} {w w' : World} (h : HmS W m bs g w) (k : Kp Nb w w') : HmS W m bs g w' := ⟨h.kp.trans k (fun _ _ h => h), fun e => (h.sl e).kept k⟩
theorem make_one (v : Value) (h1 : v.oneCell' = true) (w : World) : (Instr.buildSlice 87 1 #[(0, v)]).run Try.prog w = .ok (.slice (some ⟨w.heap.size, 0, none⟩) 1 1) (w.alloc (.cells #[v] 25 (0, 0))) := by
  cases v <;> first | (simp [Value.oneCell'] at h1; done) | kernel_rfl | go_simp

theorem plc_val (b u : Int) (t : Nat) (hu : 0 ≤ u) (h0 : 0 < t) (h1 : t ≤ 512) (b0 : 0 ≤ b) (b1 : b ≤ 2048) : wrap64 (b + (wrap64 (u.tmod 2097152)).tmod (t : Int)) = b + (((u % 2097152).toNat % t : Nat) : Int) := by
  have e1 : u.tmod 2097152 = u % 2097152 := Int.tmod_eq_emod_of_nonneg hu
  have r1 : 0 ≤ u % 2097152 ∧ u % 2097152 < 2097152 := ⟨Int.emod_nonneg _ (by decide), Int.emod_lt_of_pos _ (by decide)⟩
  have e2 : wrap64 (u % 2097152) = u % 2097152 := by unfold wrap64; omega
  rw [e1, e2, Int.tmod_eq_emod_of_nonneg r1.1]
  have e3 : u % 2097152 % (t : Int) = (((u % 2097152).toNat % t : Nat) : Int) := by
    rw [Int.natCast_emod, Int.toNat_of_nonneg r1.1]
  rw [e3]
  have := Nat.mod_lt ((u % 2097152).toNat) h0
  unfold wrap64
  omega
theorem plcL_zero (t : Nat) (m : List Int) : plcL t m 0 = [.int .i64 0, .int .i64 0, .int .i64 0] := by unfold plcL; simp
theorem plcL_0 (t : Nat) (m : List Int) : (plcL t m 0).set 0 (.int .i64 ((plc t m 0 : Nat) : Int)) = plcL t m 1 := by unfold plcL; simp
theorem plcL_1 (t : Nat) (m : List Int) : (plcL t m 1).set 1 (.int .i64 ((plc t m 1 : Nat) : Int)) = plcL t m 2 := by unfold plcL; simp
theorem plcL_2 (t : Nat) (m : List Int) : (plcL t m 2).set 2 (.int .i64 ((plc t m 2 : Nat) : Int)) = plcL t m 3 := by unfold plcL; simp
theorem plcL_len (t : Nat) (m : List Int) (k : Nat) : (plcL t m k).length = 3 := by unfold plcL; rfl

end Go.Proofs.Ytpgiinogfmhfiaa
