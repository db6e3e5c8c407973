/-
  Layer 2: walks of the eye: first, Read, Number, Signed, take, Fixed, Text. Conditions: fewer than 2^47 bytes.
-/
import Derived.Test.YteedceepoindeaaPenA
import Derived.Test.YteedceepoindeaaRefP
namespace Go.Proofs.Yteedceepoindeaa
open Go.RowKit

def beTo (zs : List Int) : Nat → Int
  | 0 => 0
  | k + 1 => bits .or .u64 (IntKind.u64.wrap (beTo zs k * 256)) (zs[k]?.getD 0)
theorem bits_or_range (a b : Int) : 0 ≤ bits .or .u64 a b ∧ bits .or .u64 a b < 18446744073709551616 := by
  unfold bits
  show 0 ≤ IntKind.u64.wrap _ ∧ IntKind.u64.wrap _ < _
  rw [IntKind.wrap_u64]
  omega
theorem beTo_range (zs : List Int) : ∀ k, 0 ≤ beTo zs k ∧ beTo zs k < 18446744073709551616
  | 0 => ⟨Int.le_refl _, by show (0 : Int) < _; decide⟩
  | k + 1 => bits_or_range _ _

/-- The first number in bytes, how many bytes it takes, an error. -/
def firstOf (zs : List Int) : Int × Nat × Int :=
  if zs.length = 0 then (0, 0, 10)
  else if zs[0]?.getD 0 ≤ 247 then (zs[0]?.getD 0, 1, 0)
  else if zs.length < 1 + (zs[0]?.getD 0 - 247).toNat then (0, 0, 10)
  else if sizeN (beTo (zs.drop 1) (zs[0]?.getD 0 - 247).toNat) = 1 + (zs[0]?.getD 0 - 247).toNat then (beTo (zs.drop 1) (zs[0]?.getD 0 - 247).toNat, 1 + (zs[0]?.getD 0 - 247).toNat, 0)
  else (0, 0, 11)

def FirstR (zs : List Int) (n : Nat) (u i : Value) : Prop := ∃ j : Nat, j ≤ n ∧ i = .int .i64 j ∧ u = .int .u64 (beTo zs j)
def firstVal (zs : List Int) : Value := .tuple #[.int .u64 (firstOf zs).1, .int .i64 (firstOf zs).2.1, .int .i64 (firstOf zs).2.2]




theorem firstOf_ok (zs : List Int) (h : (firstOf zs).2.2 = 0) : 1 ≤ (firstOf zs).2.1 ∧ (firstOf zs).2.1 ≤ zs.length := by
  unfold firstOf at h ⊢
  split at h
  · simp at h
  · rename_i h0
    rw [if_neg h0]
    split at h
    · rename_i h1
      rw [if_pos h1]
      exact ⟨Nat.le_refl _, by show 1 ≤ zs.length; omega⟩
    · rename_i h1
      rw [if_neg h1]
      split at h
      · simp at h
      · rename_i h2
        rw [if_neg h2]
        split at h
        · rename_i h3
          rw [if_pos h3]
          refine ⟨by show 1 ≤ 1 + _; omega, by show 1 + _ ≤ zs.length; omega⟩
        · simp at h

theorem elem_bytes : Try.prog.underlying 68 = some (.slice (Try.prog.elem 68)) := by
  rw [show Try.prog.elem 68 = 5 from by simp [Program.elem, Try.underlying68]]; exact Try.underlying68
theorem elem_is : Try.prog.elem 68 = 5 := by simp [Program.elem, Try.underlying68]
theorem size_byte (w : World) : (sizeOf 5).run Try.prog w = .ok 1 w := by
  obtain ⟨i0, hi, _, hz1, _⟩ := info_parts info_byte
  simp [Go.sizeOf, typeInfo, hi, hz1]

/-- v[n:] of bytes. -/
theorem BySl.cutL {S : Nat → Prop} {w : World} {v : Value} {zs : List Int} (h : BySl S w v zs) (n : Nat) (hn : n ≤ zs.length) :
    ∃ x c, (∀ W, (Instr.slice 68 v (some (.int .i64 (n : Int))) none none).run Try.prog W = .ok (.slice x (zs.length - n) c) W) ∧ BySl S w (.slice x (zs.length - n) c) (zs.drop n) := by
  obtain ⟨hz, ⟨⟨a, c, rfl⟩, rfl⟩ | ⟨blk, off, cap, rfl, hc, hm, hb, hne⟩⟩ := h
  · have h0 : n = 0 := by simpa using hn
    subst h0
    refine ⟨if c = 0 then a else a.map (·.add (0 * 1)), c - 0, fun W => ?_, fun i => by simp, .inl ⟨⟨_, _, rfl⟩, rfl⟩⟩
    rw [run_slice_l W _ _ _ _ elem_bytes .i64 _ (by omega) (by omega), elem_is, size_byte]
    rfl
  · refine ⟨if cap = n then some ⟨blk, off, none⟩ else some ⟨blk, off + n, none⟩, cap - n, fun W => ?_, hz.drop n, ?_⟩
    · rw [run_slice_l W _ _ _ _ elem_bytes .i64 _ (by omega) (by omega), elem_is, size_byte]
      show Result.ok (sliced _ _ _ _ _) W = _
      unfold sliced
      rw [Int.toNat_natCast, Nat.mul_one]
      congr 2
      show (if cap = n then some (⟨blk, off, none⟩ : Addr) else some (Addr.add ⟨blk, off, none⟩ n)) = _
      rw [show Addr.add ⟨blk, off, none⟩ n = ⟨blk, off + n, none⟩ from by unfold Addr.add; split <;> simp_all]
    · have hl : (zs.drop n).length = zs.length - n := List.length_drop
      by_cases hcap : cap = n
      · refine .inl ⟨⟨if cap = n then some ⟨blk, off, none⟩ else some ⟨blk, off + n, none⟩, cap - n, ?_⟩, List.drop_eq_nil_of_le (by omega)⟩
        rw [show zs.length - n = 0 from by omega]
      · refine .inr ⟨blk, off + n, cap - n, ?_, by omega, by omega, fun i hi => ?_, fun hp => hne (by omega)⟩
        · rw [if_neg hcap, hl]
        · rw [List.getElem?_drop, Nat.add_assoc]
          exact hb (n + i) (by omega)

/-- v[:n] of bytes. -/
theorem BySl.cutH {S : Nat → Prop} {w : World} {v : Value} {zs : List Int} (h : BySl S w v zs) (n : Nat) (hn : n ≤ zs.length) :
    ∃ x c, (∀ W, (Instr.slice 68 v none (some (.int .i64 (n : Int))) none).run Try.prog W = .ok (.slice x n c) W) ∧ BySl S w (.slice x n c) (zs.take n) := by
  obtain ⟨hz, ⟨⟨a, c, rfl⟩, rfl⟩ | ⟨blk, off, cap, rfl, hc, hm, hb, hne⟩⟩ := h
  · have h0 : n = 0 := by simpa using hn
    subst h0
    refine ⟨if c = 0 then a else a.map (·.add (0 * 1)), c - 0, fun W => ?_, fun i => by simp, .inl ⟨⟨_, _, rfl⟩, rfl⟩⟩
    rw [run_slice_h W _ _ _ _ elem_bytes .i64 _ (by omega) (by omega), elem_is, size_byte]
    rfl
  · refine ⟨some ⟨blk, off, none⟩, cap, fun W => ?_, hz.take n, ?_⟩
    · rw [run_slice_h W _ _ _ _ elem_bytes .i64 _ (by omega) (by omega), elem_is, size_byte]
      show Result.ok (sliced _ _ _ _ _) W = _
      unfold sliced
      congr 2
      split <;> simp [Addr.add]
    · have hl : (zs.take n).length = n := by rw [List.length_take]; omega
      refine .inr ⟨blk, off, cap, ?_, by omega, hm, fun i hi => ?_, fun hp => hne (by omega)⟩
      · rw [hl]
      · rw [hl] at hi
        rw [List.getElem?_take_of_lt hi]
        exact hb i (by omega)

theorem own_slice {w : World} {base n : Nat} {t : TypeId} {size : Nat} {v : Value} {xs : List Value} (h : w.ownsRow base t size v n xs) : ∃ a c, v = .slice a n c := by
  rcases h.2 with ⟨rfl, h0⟩ | ⟨g, cap, cur, rfl, _⟩
  · exact ⟨none, 0, by rw [h0]⟩
  · exact ⟨_, _, rfl⟩


def readN (zs : List Int) (e most : Int) : Int × List Int × Int :=
  if e ≠ 0 then (0, zs, e)
  else if (firstOf zs).2.2 ≠ 0 then (0, [], (firstOf zs).2.2)
  else if most < (firstOf zs).1 then (0, [], 12)
  else ((firstOf zs).1, zs.drop (firstOf zs).2.1, 0)


end Go.Proofs.Yteedceepoindeaa
