/-
  Layer 14: walks of Parts, Range, CellBytes, of the reference's Parts, and of first, what must be answered ahead of everything else. Condition: what an int is.
-/
import Derived.Test.YtofbehkooklimaaSizB
import Derived.Deep.AppendLies
import Derived.WalkSpells
namespace Go.Proofs.Ytofbehkooklimaa
open Go.RowKit

def partsZ (s : Int) : Int := if fitsB s = true then (s + 47) / 48 else 0
def bytesZ (s : Int) : Int := if fitsB s = true then 28 * s else 0
theorem partsZ_t {s : Int} (h : fitsB s = true) : partsZ s = (s + 47) / 48 := by unfold partsZ; rw [if_pos h]
theorem partsZ_f {s : Int} (h : fitsB s = false) : partsZ s = 0 := by unfold partsZ; rw [h]; rfl
theorem partsZ_le (s : Int) : 0 ≤ partsZ s ∧ partsZ s ≤ 32 := by
  cases h : fitsB s with
  | false => rw [partsZ_f h]; omega
  | true => have := fitsB_spec h; rw [partsZ_t h]; omega

set_option maxHeartbeats 400000 in
theorem parts_any (s : Int) (w : World) : Calls Try.prog 19 #[.int .i64 s] w fun e w' => e = .returned (.int .i64 (partsZ s)) ∧ w = w' := by
  cases hf : fitsB s with
  | false =>
    have HN := hid (partsZ_f hf)
    have CF : Hid (∀ w, Calls Try.prog 43 #[.int .i64 s] w fun e w' => e = .returned (.bool false) ∧ w = w') := fun w => by rw [← hf]; exact fits_any s w
    clear hf
    go_enter Try.func19, Try.ntmps19
    go_wp2_with (go_at_call 43; refine (CF.out _).mono ?_; rintro e w' ⟨rfl, rfl⟩)
    go_ret
    exact ⟨ret_int HN.out.symm, rfl⟩
  | true =>
    obtain ⟨h1, h2, h3⟩ := fitsB_spec hf
    have HN := hid (partsZ_t hf)
    have CF : Hid (∀ w, Calls Try.prog 43 #[.int .i64 s] w fun e w' => e = .returned (.bool true) ∧ w = w') := fun w => by rw [← hf]; exact fits_any s w
    clear hf h3
    go_enter Try.func19, Try.ntmps19
    go_wp2_with (go_at_call 43; refine (CF.out _).mono ?_; rintro e w' ⟨rfl, rfl⟩)
    go_ret
    exact ⟨ret_int (by rw [HN.out]; omega), rfl⟩
set_option maxHeartbeats 400000 in
theorem bytes_any (s : Int) (w : World) : Calls Try.prog 20 #[.int .i64 s] w fun e w' => e = .returned (.int .i64 (bytesZ s)) ∧ w = w' := by
  cases hf : fitsB s with
  | false =>
    have HN := hid (show bytesZ s = 0 from by unfold bytesZ; rw [hf]; rfl)
    have CF : Hid (∀ w, Calls Try.prog 43 #[.int .i64 s] w fun e w' => e = .returned (.bool false) ∧ w = w') := fun w => by rw [← hf]; exact fits_any s w
    clear hf
    go_enter Try.func20, Try.ntmps20
    go_wp2_with (go_at_call 43; refine (CF.out _).mono ?_; rintro e w' ⟨rfl, rfl⟩)
    go_ret
    exact ⟨ret_int HN.out.symm, rfl⟩
  | true =>
    obtain ⟨h1, h2, h3⟩ := fitsB_spec hf
    have HN := hid (show bytesZ s = 28 * s from by unfold bytesZ; rw [hf]; rfl)
    have CF : Hid (∀ w, Calls Try.prog 43 #[.int .i64 s] w fun e w' => e = .returned (.bool true) ∧ w = w') := fun w => by rw [← hf]; exact fits_any s w
    clear hf h3
    go_enter Try.func20, Try.ntmps20
    go_wp2_with (go_at_call 43; refine (CF.out _).mono ?_; rintro e w' ⟨rfl, rfl⟩)
    go_ret
    exact ⟨ret_int (by rw [HN.out]), rfl⟩

/-- Is there such a part? -/
def partB (s p : Int) : Bool := decide (0 ≤ p ∧ p < partsZ s)
def fromZ (s p : Int) : Int := if partB s p = true then p * 48 else 0
def toZ (s p : Int) : Int := if partB s p = true then min (p * 48 + 48) s else 0
theorem partB_spec {s p : Int} (h : partB s p = true) : 0 ≤ p ∧ p < partsZ s := by unfold partB at h; exact of_decide_eq_true h
theorem partB_fits {s p : Int} (h : partB s p = true) : fitsB s = true := by
  have := partB_spec h
  cases hf : fitsB s with
  | true => rfl
  | false => rw [partsZ_f hf] at this; omega
theorem partB_not {s p : Int} (h : partB s p = false) : p < 0 ∨ partsZ s ≤ p := by unfold partB at h; have := of_decide_eq_false h; omega
theorem partB_none {s p : Int} (h : fitsB s = false) : partB s p = false := by unfold partB; rw [partsZ_f h, decide_eq_false_iff_not]; omega

set_option maxHeartbeats 1000000 in
theorem range_any (s p : Int) (w : World) : Calls Try.prog 17 #[.int .i64 s, .int .i64 p] w fun e w' => e = .returned (.tuple #[.int .i64 (fromZ s p), .int .i64 (toZ s p), .bool (partB s p)]) ∧ w = w' := by
  have hz := partsZ_le s
  have CP : Hid (∀ w, Calls Try.prog 19 #[.int .i64 s] w fun e w' => e = .returned (.int .i64 (partsZ s)) ∧ w = w') := fun w => parts_any s w
  cases hb : partB s p with
  | false =>
    have HF := hid (show fromZ s p = 0 from by unfold fromZ; rw [hb]; rfl)
    have HT := hid (show toZ s p = 0 from by unfold toZ; rw [hb]; rfl)
    have hn := partB_not hb
    clear hb
    by_cases hp : p < 0
    · go_enter Try.func17, Try.ntmps17
      go_wp2
      rw [HF.out, HT.out]
      go_ret3
      exact ⟨rfl, rfl⟩
    · have hq : partsZ s ≤ p := by omega
      clear hn
      obtain ⟨z, hzz⟩ : ∃ z, z = partsZ s := ⟨_, rfl⟩
      rw [← hzz] at CP hz hq
      clear hzz
      go_enter Try.func17, Try.ntmps17
      go_wp2_with (go_at_call 19; refine (CP.out _).mono ?_; rintro e w' ⟨rfl, rfl⟩)
      rw [HF.out, HT.out]
      go_ret3
      exact ⟨rfl, rfl⟩
  | true =>
    have HF := hid (show fromZ s p = p * 48 from by unfold fromZ; rw [hb]; rfl)
    have HT := hid (show toZ s p = min (p * 48 + 48) s from by unfold toZ; rw [hb]; rfl)
    obtain ⟨h1, h2⟩ := partB_spec hb
    obtain ⟨h3, h4, -⟩ := fitsB_spec (partB_fits hb)
    clear hb
    obtain ⟨z, hzz⟩ : ∃ z, z = partsZ s := ⟨_, rfl⟩
    rw [← hzz] at CP hz h2
    clear hzz
    have hp32 : p < 32 := by omega
    rcases Int.lt_or_le s (p * 48 + 48) with h5 | h5
    · go_enter Try.func17, Try.ntmps17
      go_wp2_with (go_at_call 19; refine (CP.out _).mono ?_; rintro e w' ⟨rfl, rfl⟩)
      rw [HF.out, HT.out, Int.min_eq_right (by omega)]
      go_ret3
      exact ⟨rfl, rfl⟩
    · go_enter Try.func17, Try.ntmps17
      go_wp2_with (go_at_call 19; refine (CP.out _).mono ?_; rintro e w' ⟨rfl, rfl⟩)
      rw [HF.out, HT.out, Int.min_eq_left (by omega)]
      go_ret3
      exact ⟨rfl, rfl⟩

end Go.Proofs.Ytofbehkooklimaa
