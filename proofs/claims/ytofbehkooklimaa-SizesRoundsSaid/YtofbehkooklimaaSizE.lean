/-
  Layer 14: the walks of first, SizesRounds and SizesParts. Condition: what an int is.
-/
import Derived.Test.YtofbehkooklimaaSizD
import Derived.Deep.CutBlock
import Derived.Deep.DeepCutAuto
namespace Go.Proofs.Ytofbehkooklimaa
open Go.RowKit

theorem IntRow.some {w : World} {v : Value} {zs : List Int} (h : IntRow w v zs) (hl : 0 < zs.length) : ∃ g c, v = .slice (Option.some ⟨g, 0, Option.none⟩) zs.length c ∧ ∀ i, i < zs.length → w.cell? ⟨g, i, Option.none⟩ = Option.some (.int .i64 (zs[i]?.getD 0)) := by
  rcases h with ⟨rfl, _⟩ | ⟨g, cap, rfl, _, _, hcell⟩
  · simp at hl
  · exact ⟨g, cap, rfl, hcell⟩
theorem fs_rounds (w : World) : Calls Try.prog 12 #[.int .i64 0, .int .i64 9] w fun e w' => (∃ v1 v2, e = .returned (.tuple #[v1, v2]) ∧ IntRow w' v1 [0, 1, 2, 3] ∧ IntRow w' v2 [12, 24, 48, 96]) ∧ Kp Nb w w' := by
  have := rounds_any 0 9 w
  rw [show firsts 0 9 = [0, 1, 2, 3] from by kernel_rfl, show sizesOf 0 9 = [12, 24, 48, 96] from by kernel_rfl] at this
  exact this
theorem fs_range (w : World) : Calls Try.prog 17 #[.int .i64 60, .int .i64 1] w fun e w' => e = .returned (.tuple #[.int .i64 48, .int .i64 60, .bool true]) ∧ w = w' := by
  have := range_any 60 1 w
  rw [show fromZ 60 1 = 48 from by kernel_rfl, show toZ 60 1 = 60 from by kernel_rfl, show partB 60 1 = true from by kernel_rfl] at this
  exact this
theorem fs_cells (w : World) : Calls Try.prog 14 #[.int .i64 0] w fun e w' => e = .returned (.int .i64 12) ∧ w = w' := by
  have := cells_any 0 w
  rw [show cellsZ 0 = 12 from by kernel_rfl] at this
  exact this
theorem fs_next1 (w : World) : Calls Try.prog 15 #[.int .i64 1536] w fun e w' => e = .returned (.int .i64 1536) ∧ w = w' := by
  have := next_any 1536 w
  rw [show nextZ 1536 = 1536 from by kernel_rfl] at this
  exact this
theorem fs_next2 (w : World) : Calls Try.prog 15 #[.int .i64 4] w fun e w' => e = .returned (.int .i64 0) ∧ w = w' := by
  have := next_any 4 w
  rw [show nextZ 4 = 0 from by kernel_rfl] at this
  exact this
theorem fs_parts (w : World) : Calls Try.prog 19 #[.int .i64 60] w fun e w' => e = .returned (.int .i64 2) ∧ w = w' := by
  have := parts_any 60 w
  rw [show partsZ 60 = 2 from by kernel_rfl] at this
  exact this
theorem fs_bytes (w : World) : Calls Try.prog 20 #[.int .i64 3] w fun e w' => e = .returned (.int .i64 84) ∧ w = w' := by
  have := bytes_any 3 w
  rw [show bytesZ 3 = 84 from by kernel_rfl] at this
  exact this

set_option maxRecDepth 100000 in
set_option maxHeartbeats 1000000 in
theorem first14_any (w : World) : Calls Try.prog 11 #[] w fun e w' => e = .returned (.bool true) ∧ Kp Nb w w' := by
  go_enter Try.func11, Try.ntmps11
  go_wp2_with fail
  refine (fs_rounds _).mono ?_
  rintro e w1 ⟨⟨v1, v2, rfl, r1, r2⟩, k1⟩
  obtain ⟨g1, d1, rfl, c1⟩ := r1.some (by decide)
  obtain ⟨g2, d2, rfl, c2⟩ := r2.some (by decide)
  have e1 : w1.cell? ⟨g1, 3, none⟩ = some (.int .i64 3) := c1 3 (by decide)
  have e2 : w1.cell? ⟨g2, 3, none⟩ = some (.int .i64 96) := c2 3 (by decide)
  have K1 := hid k1
  clear k1 r1 r2 c1 c2
  go_wp2_with (first
    | (go_at_call 17; refine (fs_range _).mono ?_; rintro e w' ⟨rfl, rfl⟩)
    | (go_at_call 14; refine (fs_cells _).mono ?_; rintro e w' ⟨rfl, rfl⟩)
    | (go_at_call 15; ((with_reducible refine (fs_next1 _).mono ?_); rintro e w' ⟨rfl, rfl⟩))
    | (go_at_call 15; ((with_reducible refine (fs_next2 _).mono ?_); rintro e w' ⟨rfl, rfl⟩))
    | (go_at_call 19; refine (fs_parts _).mono ?_; rintro e w' ⟨rfl, rfl⟩)
    | (go_at_call 20; refine (fs_bytes _).mono ?_; rintro e w' ⟨rfl, rfl⟩))
  go_ret
  exact ⟨rfl, K1.out⟩

theorem firsts_length (g m : Int) : (firsts g m).length = min m.toNat 4 := by unfold firsts; rw [List.length_map, List.length_take, roundsL_length]
theorem sizesOf_length (g m : Int) : (sizesOf g m).length = min m.toNat 4 := by unfold sizesOf; rw [List.length_map, List.length_take, roundsL_length]
theorem roundsL_get (g : Int) (j : Nat) (h : j < 4) : (roundsL g 4)[j]? = Option.some ((j : Int), sizeZ g j) := by
  unfold roundsL
  rw [List.getElem?_map, List.getElem?_range h]
  rfl
theorem firsts_get (g m : Int) (j : Nat) (h : j < min m.toNat 4) : (firsts g m)[j]?.getD 0 = (j : Int) := by
  unfold firsts
  rw [List.getElem?_map, List.getElem?_take_of_lt (by omega), roundsL_get g j (by omega)]
  rfl
theorem sizesOf_get (g m : Int) (j : Nat) (h : j < min m.toNat 4) : (sizesOf g m)[j]?.getD 0 = sizeZ g j := by
  unfold sizesOf
  rw [List.getElem?_map, List.getElem?_take_of_lt (by omega), roundsL_get g j (by omega)]
  rfl
def RoR (g : Int) (L : Nat) (n i : Value) : Prop := ∃ j : Nat, j ≤ L ∧ i = .int .i64 j ∧ n = .int .i64 (sizeZ g j)

/-- What rounds answers, with the length as a letter. -/
theorem rounds_len (g m : Int) (L : Nat) (hL : L = min m.toNat 4) (w : World) :
    Calls Try.prog 12 #[.int .i64 g, .int .i64 m] w fun e w' => (∃ x1 c1 x2 c2, e = .returned (.tuple #[.slice x1 L c1, .slice x2 L c2]) ∧ Hid (∀ j, j < L → ∃ b1 b2, x1 = Option.some ⟨b1, 0, none⟩ ∧ x2 = Option.some ⟨b2, 0, none⟩ ∧ w'.cell? ⟨b1, j, none⟩ = Option.some (.int .i64 (j : Int)) ∧ w'.cell? ⟨b2, j, none⟩ = Option.some (.int .i64 (sizeZ g j)))) ∧ Kp Nb w w' := by
  refine (rounds_any g m w).mono ?_
  rintro e w' ⟨⟨v1, v2, rfl, r1, r2⟩, k⟩
  obtain ⟨x1, c1, rfl⟩ := r1.shape
  obtain ⟨x2, c2, rfl⟩ := r2.shape
  rw [firsts_length, sizesOf_length, ← hL]
  refine ⟨⟨x1, c1, x2, c2, rfl, fun j hj => ?_⟩, k⟩
  obtain ⟨b1, d1, e1, q1⟩ := r1.some (by rw [firsts_length]; omega)
  obtain ⟨b2, d2, e2, q2⟩ := r2.some (by rw [sizesOf_length]; omega)
  have h1 := q1 j (by rw [firsts_length]; omega)
  have h2 := q2 j (by rw [sizesOf_length]; omega)
  rw [firsts_get g m j (by omega)] at h1
  rw [sizesOf_get g m j (by omega)] at h2
  injection e1 with e1
  injection e2 with e2
  exact ⟨b1, b2, e1, e2, h1, h2⟩

set_option maxRecDepth 100000 in
set_option maxHeartbeats 2000000 in
theorem rounds_law (g s m : Int) (w : World) :
    Calls Try.prog 3 #[.int .i64 g, .int .i64 s, .int .i64 m] w fun e w' => e = .returned (.bool true) ∧ Kp Nb w w' := by
  obtain ⟨K, L, hc⟩ : ∃ (K : Int) (L : Nat), (m < 0 ∧ K = 0 ∧ L = 0) ∨ (m = 0 ∧ K = 0 ∧ L = 0) ∨ (1 ≤ m ∧ m ≤ 3 ∧ K = m ∧ (L : Int) = m) ∨ (m = 4 ∧ K = 4 ∧ L = 4) ∨ (5 ≤ m ∧ m ≤ 9 ∧ K = m ∧ L = 4) ∨ (9 < m ∧ K = 9 ∧ L = 4) := by
    rcases (show m < 0 ∨ m = 0 ∨ (1 ≤ m ∧ m ≤ 3) ∨ m = 4 ∨ (5 ≤ m ∧ m ≤ 9) ∨ 9 < m by omega) with h | h | h | h | h | h
    · exact ⟨0, 0, .inl ⟨h, rfl, rfl⟩⟩
    · exact ⟨0, 0, .inr (.inl ⟨h, rfl, rfl⟩)⟩
    · exact ⟨m, m.toNat, .inr (.inr (.inl ⟨h.1, h.2, rfl, by omega⟩))⟩
    · exact ⟨4, 4, .inr (.inr (.inr (.inl ⟨h, rfl, rfl⟩)))⟩
    · exact ⟨m, 4, .inr (.inr (.inr (.inr (.inl ⟨h.1, h.2, rfl, rfl⟩))))⟩
    · exact ⟨9, 4, .inr (.inr (.inr (.inr (.inr ⟨h, rfl, rfl⟩))))⟩
  have HL : Hid (L = min K.toNat 4) := by unfold Hid; omega
  have HL4 : Hid (L ≤ 4) := by unfold Hid; omega
  obtain ⟨c0, hc0⟩ : ∃ c, c = cellsZ g := ⟨_, rfl⟩
  have HC0 := hid (show c0 = sizeZ g 0 from hc0)
  have CC : Hid (∀ w, Calls Try.prog 14 #[.int .i64 g] w fun e w' => e = .returned (.int .i64 c0) ∧ w = w') := fun w => by rw [hc0]; exact cells_any g w
  have CR : Hid (∀ w, Calls Try.prog 13 #[.int .i64 g] w fun e w' => e = .returned (.int .i64 c0) ∧ w = w') := fun w => by rw [hc0]; exact rcells_any g w
  obtain ⟨n0, hn0⟩ : ∃ c, c = nextZ s := ⟨_, rfl⟩
  have CN : Hid (∀ w, Calls Try.prog 15 #[.int .i64 s] w fun e w' => e = .returned (.int .i64 n0) ∧ w = w') := fun w => by rw [hn0]; exact next_any s w
  have CM : Hid (∀ w, Calls Try.prog 16 #[.int .i64 s] w fun e w' => e = .returned (.int .i64 n0) ∧ w = w') := fun w => by rw [hn0]; exact rnext_any s w
  clear hn0 hc0
  rcases hc with ⟨h1, rfl, rfl⟩ | ⟨rfl, rfl, rfl⟩ | ⟨h1, h2, rfl, rfl⟩ | ⟨rfl, rfl, rfl⟩ | ⟨h1, h2, rfl, rfl⟩ | ⟨h1, rfl, rfl⟩
  · go_enter Try.func3, Try.ntmps3
    go_wp2_with fail
    refine (first14_any _).mono ?_
    rintro e w1 ⟨rfl, k1⟩
    have K1 := hid k1
    clear k1
    go_wp2_with fail
    refine (rounds_len g _ _ HL.out _).mono ?_
    rintro e w2 ⟨⟨x1, d1, x2, d2, rfl, HR⟩, k2⟩
    have K2 := hid (K1.out.trans k2 (fun _ _ h => h))
    clear k2 K1
    go_wp2_with (first
      | (go_at_call 13; refine (CR.out _).mono ?_; rintro e w' ⟨rfl, rfl⟩)
      | (go_at_call 14; refine (CC.out _).mono ?_; rintro e w' ⟨rfl, rfl⟩)
      | (go_at_call 15; refine (CN.out _).mono ?_; rintro e w' ⟨rfl, rfl⟩)
      | (go_at_call 16; refine (CM.out _).mono ?_; rintro e w' ⟨rfl, rfl⟩))
    go_loop [10, 45] (fun a b => RoR g (0) a b) (fun _ i => (0) - (intOf i).toNat)
    case atStart => exact ⟨0, Nat.zero_le _, rfl, by rw [HC0.out]⟩
    case round =>
      obtain ⟨j, hj, rfl, rfl⟩ := hrel
      obtain ⟨n1, hn1⟩ : ∃ c, c = sizeZ g j := ⟨_, rfl⟩
      rw [← hn1]
      have HN1 := hid hn1
      have CM1 : Hid (∀ w, Calls Try.prog 16 #[.int .i64 n1] w fun e w' => e = .returned (.int .i64 (nextZ n1)) ∧ w = w') := fun w => rnext_any n1 w
      obtain rfl : j = 0 := by omega
      clear hn1
      go_wp2
      go_ret
      exact ⟨rfl, K2.out⟩
  · go_enter Try.func3, Try.ntmps3
    go_wp2_with fail
    refine (first14_any _).mono ?_
    rintro e w1 ⟨rfl, k1⟩
    have K1 := hid k1
    clear k1
    go_wp2_with fail
    refine (rounds_len g _ _ HL.out _).mono ?_
    rintro e w2 ⟨⟨x1, d1, x2, d2, rfl, HR⟩, k2⟩
    have K2 := hid (K1.out.trans k2 (fun _ _ h => h))
    clear k2 K1
    go_wp2_with (first
      | (go_at_call 13; refine (CR.out _).mono ?_; rintro e w' ⟨rfl, rfl⟩)
      | (go_at_call 14; refine (CC.out _).mono ?_; rintro e w' ⟨rfl, rfl⟩)
      | (go_at_call 15; refine (CN.out _).mono ?_; rintro e w' ⟨rfl, rfl⟩)
      | (go_at_call 16; refine (CM.out _).mono ?_; rintro e w' ⟨rfl, rfl⟩))
    go_loop [10, 45] (fun a b => RoR g (0) a b) (fun _ i => (0) - (intOf i).toNat)
    case atStart => exact ⟨0, Nat.zero_le _, rfl, by rw [HC0.out]⟩
    case round =>
      obtain ⟨j, hj, rfl, rfl⟩ := hrel
      obtain ⟨n1, hn1⟩ : ∃ c, c = sizeZ g j := ⟨_, rfl⟩
      rw [← hn1]
      have HN1 := hid hn1
      have CM1 : Hid (∀ w, Calls Try.prog 16 #[.int .i64 n1] w fun e w' => e = .returned (.int .i64 (nextZ n1)) ∧ w = w') := fun w => rnext_any n1 w
      obtain rfl : j = 0 := by omega
      clear hn1
      go_wp2
      go_ret
      exact ⟨rfl, K2.out⟩
  · go_enter Try.func3, Try.ntmps3
    go_wp2_with fail
    refine (first14_any _).mono ?_
    rintro e w1 ⟨rfl, k1⟩
    have K1 := hid k1
    clear k1
    go_wp2_with fail
    refine (rounds_len g _ _ HL.out _).mono ?_
    rintro e w2 ⟨⟨x1, d1, x2, d2, rfl, HR⟩, k2⟩
    have K2 := hid (K1.out.trans k2 (fun _ _ h => h))
    clear k2 K1
    go_wp2_with (first
      | (go_at_call 13; refine (CR.out _).mono ?_; rintro e w' ⟨rfl, rfl⟩)
      | (go_at_call 14; refine (CC.out _).mono ?_; rintro e w' ⟨rfl, rfl⟩)
      | (go_at_call 15; refine (CN.out _).mono ?_; rintro e w' ⟨rfl, rfl⟩)
      | (go_at_call 16; refine (CM.out _).mono ?_; rintro e w' ⟨rfl, rfl⟩))
    go_loop [10, 45] (fun a b => RoR g (L) a b) (fun _ i => (L) - (intOf i).toNat)
    case atStart => exact ⟨0, Nat.zero_le _, rfl, by rw [HC0.out]⟩
    case round =>
      obtain ⟨j, hj, rfl, rfl⟩ := hrel
      obtain ⟨n1, hn1⟩ : ∃ c, c = sizeZ g j := ⟨_, rfl⟩
      rw [← hn1]
      have HN1 := hid hn1
      have CM1 : Hid (∀ w, Calls Try.prog 16 #[.int .i64 n1] w fun e w' => e = .returned (.int .i64 (nextZ n1)) ∧ w = w') := fun w => rnext_any n1 w
      by_cases hlt : j < (L)
      · obtain ⟨b1, b2, rfl, rfl, q1, q2⟩ := HR.out j hlt
        rw [← hn1] at q2
        clear hn1
        go_wp2_with (go_at_call 16; refine (CM1.out _).mono ?_; rintro e w' ⟨rfl, rfl⟩)
        go_round
        case rel => exact ⟨j + 1, by omega, by go_num, by rw [HN1.out]; rfl⟩
        case measure => simp [intOf]; omega
      · obtain rfl : j = (L) := by omega
        clear hn1
        go_wp2
        go_ret
        exact ⟨rfl, K2.out⟩
  · go_enter Try.func3, Try.ntmps3
    go_wp2_with fail
    refine (first14_any _).mono ?_
    rintro e w1 ⟨rfl, k1⟩
    have K1 := hid k1
    clear k1
    go_wp2_with fail
    refine (rounds_len g _ _ HL.out _).mono ?_
    rintro e w2 ⟨⟨x1, d1, x2, d2, rfl, HR⟩, k2⟩
    have K2 := hid (K1.out.trans k2 (fun _ _ h => h))
    clear k2 K1
    go_wp2_with (first
      | (go_at_call 13; refine (CR.out _).mono ?_; rintro e w' ⟨rfl, rfl⟩)
      | (go_at_call 14; refine (CC.out _).mono ?_; rintro e w' ⟨rfl, rfl⟩)
      | (go_at_call 15; refine (CN.out _).mono ?_; rintro e w' ⟨rfl, rfl⟩)
      | (go_at_call 16; refine (CM.out _).mono ?_; rintro e w' ⟨rfl, rfl⟩))
    go_loop [10, 45] (fun a b => RoR g (4) a b) (fun _ i => (4) - (intOf i).toNat)
    case atStart => exact ⟨0, Nat.zero_le _, rfl, by rw [HC0.out]⟩
    case round =>
      obtain ⟨j, hj, rfl, rfl⟩ := hrel
      obtain ⟨n1, hn1⟩ : ∃ c, c = sizeZ g j := ⟨_, rfl⟩
      rw [← hn1]
      have HN1 := hid hn1
      have CM1 : Hid (∀ w, Calls Try.prog 16 #[.int .i64 n1] w fun e w' => e = .returned (.int .i64 (nextZ n1)) ∧ w = w') := fun w => rnext_any n1 w
      by_cases hlt : j < (4)
      · obtain ⟨b1, b2, rfl, rfl, q1, q2⟩ := HR.out j hlt
        rw [← hn1] at q2
        clear hn1
        go_wp2_with (go_at_call 16; refine (CM1.out _).mono ?_; rintro e w' ⟨rfl, rfl⟩)
        go_round
        case rel => exact ⟨j + 1, by omega, by go_num, by rw [HN1.out]; rfl⟩
        case measure => simp [intOf]; omega
      · obtain rfl : j = (4) := by omega
        clear hn1
        go_wp2
        go_ret
        exact ⟨rfl, K2.out⟩
  · go_enter Try.func3, Try.ntmps3
    go_wp2_with fail
    refine (first14_any _).mono ?_
    rintro e w1 ⟨rfl, k1⟩
    have K1 := hid k1
    clear k1
    go_wp2_with fail
    refine (rounds_len g _ _ HL.out _).mono ?_
    rintro e w2 ⟨⟨x1, d1, x2, d2, rfl, HR⟩, k2⟩
    have K2 := hid (K1.out.trans k2 (fun _ _ h => h))
    clear k2 K1
    go_wp2_with (first
      | (go_at_call 13; refine (CR.out _).mono ?_; rintro e w' ⟨rfl, rfl⟩)
      | (go_at_call 14; refine (CC.out _).mono ?_; rintro e w' ⟨rfl, rfl⟩)
      | (go_at_call 15; refine (CN.out _).mono ?_; rintro e w' ⟨rfl, rfl⟩)
      | (go_at_call 16; refine (CM.out _).mono ?_; rintro e w' ⟨rfl, rfl⟩))
    go_loop [10, 45] (fun a b => RoR g (4) a b) (fun _ i => (4) - (intOf i).toNat)
    case atStart => exact ⟨0, Nat.zero_le _, rfl, by rw [HC0.out]⟩
    case round =>
      obtain ⟨j, hj, rfl, rfl⟩ := hrel
      obtain ⟨n1, hn1⟩ : ∃ c, c = sizeZ g j := ⟨_, rfl⟩
      rw [← hn1]
      have HN1 := hid hn1
      have CM1 : Hid (∀ w, Calls Try.prog 16 #[.int .i64 n1] w fun e w' => e = .returned (.int .i64 (nextZ n1)) ∧ w = w') := fun w => rnext_any n1 w
      by_cases hlt : j < (4)
      · obtain ⟨b1, b2, rfl, rfl, q1, q2⟩ := HR.out j hlt
        rw [← hn1] at q2
        clear hn1
        go_wp2_with (go_at_call 16; refine (CM1.out _).mono ?_; rintro e w' ⟨rfl, rfl⟩)
        go_round
        case rel => exact ⟨j + 1, by omega, by go_num, by rw [HN1.out]; rfl⟩
        case measure => simp [intOf]; omega
      · obtain rfl : j = (4) := by omega
        clear hn1
        go_wp2
        go_ret
        exact ⟨rfl, K2.out⟩
  · go_enter Try.func3, Try.ntmps3
    go_wp2_with fail
    refine (first14_any _).mono ?_
    rintro e w1 ⟨rfl, k1⟩
    have K1 := hid k1
    clear k1
    go_wp2_with fail
    refine (rounds_len g _ _ HL.out _).mono ?_
    rintro e w2 ⟨⟨x1, d1, x2, d2, rfl, HR⟩, k2⟩
    have K2 := hid (K1.out.trans k2 (fun _ _ h => h))
    clear k2 K1
    go_wp2_with (first
      | (go_at_call 13; refine (CR.out _).mono ?_; rintro e w' ⟨rfl, rfl⟩)
      | (go_at_call 14; refine (CC.out _).mono ?_; rintro e w' ⟨rfl, rfl⟩)
      | (go_at_call 15; refine (CN.out _).mono ?_; rintro e w' ⟨rfl, rfl⟩)
      | (go_at_call 16; refine (CM.out _).mono ?_; rintro e w' ⟨rfl, rfl⟩))
    go_loop [10, 45] (fun a b => RoR g (4) a b) (fun _ i => (4) - (intOf i).toNat)
    case atStart => exact ⟨0, Nat.zero_le _, rfl, by rw [HC0.out]⟩
    case round =>
      obtain ⟨j, hj, rfl, rfl⟩ := hrel
      obtain ⟨n1, hn1⟩ : ∃ c, c = sizeZ g j := ⟨_, rfl⟩
      rw [← hn1]
      have HN1 := hid hn1
      have CM1 : Hid (∀ w, Calls Try.prog 16 #[.int .i64 n1] w fun e w' => e = .returned (.int .i64 (nextZ n1)) ∧ w = w') := fun w => rnext_any n1 w
      by_cases hlt : j < (4)
      · obtain ⟨b1, b2, rfl, rfl, q1, q2⟩ := HR.out j hlt
        rw [← hn1] at q2
        clear hn1
        go_wp2_with (go_at_call 16; refine (CM1.out _).mono ?_; rintro e w' ⟨rfl, rfl⟩)
        go_round
        case rel => exact ⟨j + 1, by omega, by go_num, by rw [HN1.out]; rfl⟩
        case measure => simp [intOf]; omega
      · obtain rfl : j = (4) := by omega
        clear hn1
        go_wp2
        go_ret
        exact ⟨rfl, K2.out⟩

end Go.Proofs.Ytofbehkooklimaa
