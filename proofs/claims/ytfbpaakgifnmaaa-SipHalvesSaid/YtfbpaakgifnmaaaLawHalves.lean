/-
  The statement of layer 1 on halves: a mark's halves are the sums with the seeds 1 and 2. The walk. No condition but that each list is shorter than 2^62.
-/
import Derived.Test.YtfbpaakgifnmaaaSipF
import Derived.Test.YtfbpaakgifnmaaaHalvesPlain
namespace Go.Proofs.Ytfbpaakgifnmaaa
open Go.RowKit

def InnerR (h : Int) (v k : Value) : Prop := ∃ j : Nat, j ≤ 8 ∧ k = .int .i64 j ∧ v = .int .u64 (asm h j)
def OuterR (w : World) (M : Nat) (zs : List Int) (i : Value) (wr : World) : Prop :=
  ∃ k : Nat, k ≤ 2 ∧ i = .int .i64 k ∧ Hid (Blk wr M 32 (markCells (markA zs) (markB zs) 8)) ∧ Hid (Kp Nb w wr)

theorem half_cell (w : World) (M : Nat) (zs : List Int) (h : Blk w M 32 (markCells (markA zs) (markB zs) 8)) : ∀ i j, i < 2 → j < 8 → w.cell? ⟨M, 8 * i + j, none⟩ = some (.int .u8 (byteOf (halfOf zs i) j)) := by
  intro i j hi hj
  rw [h.cell]
  unfold markCells markList halfOf
  rw [List.getElem?_map, List.getElem?_map, List.getElem?_range (by omega)]
  rcases (show i = 0 ∨ i = 1 by omega) with rfl | rfl
  · simp [show j < 8 from hj]
  · simp [show ¬ (8 + j < 8) by omega, show j < 8 from hj]

set_option maxRecDepth 100000 in
set_option maxHeartbeats 400000 in
theorem halves_walk (v : Value) (ps : List (List Int)) (w : World) (hp : PsSl w v ps) (hz : ∀ i, i < ps.length → (ps[i]?.getD []).length < 4611686018427387904) :
    Calls Try.prog 6 #[v] w fun e w' => e = .returned (.bool true) ∧ Kp Nb w w' := by
  have HP := hid hp
  have HZ := hid hz
  clear hp hz
  go_enter Try.func6, Try.ntmps6
  go_wp2_with fail
  refine (first_any _).mono ?_
  rintro e w1 ⟨rfl, k1⟩
  have K1 := hid k1
  have HP1 := hid (HP.out.kept k1)
  clear k1
  by_cases hb : 3000 < bulk ps
  · have hbt : decide (3000 < bulk ps) = true := by simpa using hb
    go_wp2_with fail
    refine (great_any v ps _ HP1.out HZ.out).mono ?_
    rintro e w2 ⟨rfl, rfl⟩
    go_wp2
    go_ret
    exact ⟨rfl, K1.out⟩
  · have hbf : decide (3000 < bulk ps) = false := by simpa using hb
    have hfl : Hid (ps.flatten.length < 4611686018427387904) := by unfold bulk at hb; unfold Hid; omega
    have HBF := hid hb
    clear hb
    go_wp2_with fail
    refine (great_any v ps _ HP1.out HZ.out).mono ?_
    rintro e w2 ⟨rfl, rfl⟩
    go_wp2_with fail
    refine (mark_lit v ps _ HP1.out hfl.out).mono ?_
    rintro e w3 ⟨rfl, k3⟩
    have K3 := hid (K1.out.trans k3 (fun _ _ h => h))
    have HP3 := hid (HP1.out.kept k3)
    clear k3
    obtain ⟨h, hh⟩ : ∃ h, h = markA ps.flatten := ⟨_, rfl⟩
    obtain ⟨g, hg⟩ : ∃ g, g = markB ps.flatten := ⟨_, rfl⟩
    rw [← hh, ← hg]
    have HH := hid hh
    have HG := hid hg
    clear hh hg
    go_wp2
    have HB4 := hid (Blk.new w3 32 (markCells h g 8))
    have HK4 := hid (K3.out.alloc (.cells (markCells h g 8).toArray 32))
    have HM := hid (K3.out.size)
    obtain ⟨M, hM⟩ : ∃ M, M = w3.heap.size := ⟨_, rfl⟩
    obtain ⟨W4, hW⟩ : ∃ W4, W4 = w3.alloc (.cells (markCells h g 8).toArray 32) := ⟨_, rfl⟩
    rw [← hW] at HB4 HK4
    rw [← hM] at HB4 HM
    have hW' : W4 = w3.alloc (.cells #[.int .u8 (byteOf h 0), .int .u8 (byteOf h 1), .int .u8 (byteOf h 2), .int .u8 (byteOf h 3), .int .u8 (byteOf h 4), .int .u8 (byteOf h 5), .int .u8 (byteOf h 6), .int .u8 (byteOf h 7), .int .u8 (byteOf g 0), .int .u8 (byteOf g 1), .int .u8 (byteOf g 2), .int .u8 (byteOf g 3), .int .u8 (byteOf g 4), .int .u8 (byteOf g 5), .int .u8 (byteOf g 6), .int .u8 (byteOf g 7)] 32) := hW
    rw [← hW', ← hM]
    clear hW hW' hM
    have HC : Hid (Blk W4 M 32 (markCells (markA ps.flatten) (markB ps.flatten) 8)) := by rw [← HH.out, ← HG.out]; exact HB4.out
    have HP4 := hid (HP.out.kept HK4.out)
    clear HB4 HP3 K3 HP1 K1
    go_loopw [13] (OuterR w M ps.flatten) (fun i _ => 2 - (intOf i).toNat)
    case atStart => exact ⟨0, Nat.zero_le _, rfl, HC.out, HK4.out⟩
    case round =>
      clear HC HP4 HK4
      obtain ⟨i, hi, rfl, hc, hkp⟩ := hrel
      by_cases hlt : i < 2
      · go_wp2
        go_loop [5, 16] (InnerR (halfOf ps.flatten i)) (fun _ k => 8 - (intOf k).toNat)
        case atStart => exact ⟨0, Nat.zero_le _, rfl, rfl⟩
        case round =>
          obtain ⟨j, hj, rfl, rfl⟩ := hrel
          by_cases hlt2 : j < 8
          · have hcell := half_cell wr M ps.flatten hc.out i j hlt hlt2
            obtain ⟨b0, b1⟩ := byteOf_range (halfOf ps.flatten i) j
            have HR := hid (show InnerR (halfOf ps.flatten i) (.int .u64 (bits .or .u64 (IntKind.u64.wrap (asm (halfOf ps.flatten i) j * 256)) (byteOf (halfOf ps.flatten i) j))) (.int .i64 ((j : Int) + 1)) from ⟨j + 1, by omega, by go_num, rfl⟩)
            go_wp2
            exact ⟨HR.out, by simp [intOf]; omega⟩
          · obtain rfl : j = 8 := by omega
            rw [asm_eight _ (halfOf_range _ _).1 (halfOf_range _ _).2]
            go_wp2_with fail
            refine (seed_any _ _).mono ?_
            rintro e w5 ⟨rfl, k5⟩
            have K5 := hid (hkp.out.trans k5 (fun _ _ h => h))
            have HC5 := hid (hc.out.kept k5 (fun h => h))
            clear k5
            go_wp2_with fail
            have hcall := hash_any (seedA ((i : Int) + 1)) (seedB ((i : Int) + 1)) v ps w5 (HP.out.kept K5.out) hfl.out
            rw [halfOf_hash ps.flatten i hlt] at hcall
            refine hcall.mono ?_
            clear hcall
            rintro e w6 ⟨rfl, k6⟩
            have K6 := hid (K5.out.trans k6 (fun _ _ h => h))
            have HC6 := hid (HC5.out.kept k6 (fun h => h))
            clear k6
            have HR := hid (show OuterR w M ps.flatten (.int .i64 ((i : Int) + 1)) w6 from ⟨i + 1, by omega, by go_num, HC6.out, K6.out⟩)
            go_wp2
            exact ⟨HR.out, by simp [intOf]; omega⟩
      · obtain rfl : i = 2 := by omega
        go_wp2
        go_ret
        exact ⟨rfl, hkp.out⟩

end Go.Proofs.Ytfbpaakgifnmaaa
