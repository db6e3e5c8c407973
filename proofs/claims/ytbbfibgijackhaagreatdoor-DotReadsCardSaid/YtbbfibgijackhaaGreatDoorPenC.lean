/-
  Layer 2: walks of the eye: Signed, take, Fixed, Text. Conditions: fewer than 2^47 bytes.
-/
import Derived.Test.YtbbfibgijackhaaGreatDoorPenB
namespace Go.Proofs.YtbbfibgijackhaaGreatDoor
open Go.RowKit

theorem firstOf_range (zs : List Int) (hz : IsBytes zs) : 0 ≤ (firstOf zs).1 ∧ (firstOf zs).1 < 18446744073709551616 := by
  unfold firstOf
  have h0 := hz 0
  have h1 := beTo_range (zs.drop 1) (zs[0]?.getD 0 - 247).toNat
  split
  · exact ⟨Int.le_refl _, by show (0 : Int) < _; decide⟩
  · split
    · exact ⟨h0.1, by show zs[0]?.getD 0 < _; omega⟩
    · split
      · exact ⟨Int.le_refl _, by show (0 : Int) < _; decide⟩
      · split
        · exact h1
        · exact ⟨Int.le_refl _, by show (0 : Int) < _; decide⟩
theorem readN_range (zs : List Int) (e most : Int) (hz : IsBytes zs) : 0 ≤ (readN zs e most).1 ∧ (readN zs e most).1 < 18446744073709551616 := by
  have h := firstOf_range zs hz
  unfold readN
  split
  · exact ⟨Int.le_refl _, by show (0 : Int) < _; decide⟩
  · split
    · exact ⟨Int.le_refl _, by show (0 : Int) < _; decide⟩
    · split
      · exact ⟨Int.le_refl _, by show (0 : Int) < _; decide⟩
      · exact h
theorem readN_left (zs : List Int) (e most : Int) : (readN zs e most).2.1.length ≤ zs.length := by
  unfold readN
  split
  · exact Nat.le_refl _
  · split
    · exact Nat.zero_le _
    · split
      · exact Nat.zero_le _
      · show (zs.drop _).length ≤ _
        rw [List.length_drop]; omega



/-- What Fixed(n) answers, what is left, the error. -/
def fixN (zs : List Int) (e n : Int) : List Int × List Int × Int :=
  if e ≠ 0 then ([], zs, e)
  else if n < 0 then ([], [], 2)
  else if (zs.length : Int) < n then ([], [], 10)
  else (zs.take n.toNat, zs.drop n.toNat, 0)

theorem BySl.none {S : Nat → Prop} (w : World) : BySl S w (.slice none 0 0) [] := ⟨fun i => by simp, .inl ⟨⟨_, _, rfl⟩, rfl⟩⟩


/-- What Text(most) answers, what is left, the error. -/
def textN (zs : List Int) (e most : Int) : List Int × List Int × Int :=
  if (readN zs e 18446744073709551615).2.2 ≠ 0 then ([], (readN zs e 18446744073709551615).2.1, (readN zs e 18446744073709551615).2.2)
  else if most < 0 ∨ most < (readN zs e 18446744073709551615).1 then ([], [], 12)
  else fixN (readN zs e 18446744073709551615).2.1 0 (readN zs e 18446744073709551615).1


end Go.Proofs.YtbbfibgijackhaaGreatDoor
