/-
  The walk of layer 1's Mark. Conditions: fewer than 2^62 bytes.
-/
import Derived.Test.YtfbpaakgifnmaaaSipD
namespace Go.Proofs.Ytfbpaakgifnmaaa
open Go.RowKit

theorem PsSl.kept {w w' : World} {v : Value} {ps : List (List Int)} (h : PsSl w v ps) (k : Kp Nb w w') : PsSl w' v ps := by
  rcases h with h | ⟨blk, off, cap, hv, hc, hm, hp⟩
  · exact .inl h
  · refine .inr ⟨blk, off, cap, hv, hc, hm, fun i hi => ?_⟩
    obtain ⟨u, hu, hb⟩ := hp i hi
    exact ⟨u, k.cell hu (fun h => h), hb.kept k (fun _ h => h)⟩

def MarkR (w : World) (R : Nat) (h g : Int) (i : Value) (wr : World) : Prop :=
  ∃ k : Nat, k ≤ 8 ∧ i = .int .i64 k ∧ Hid (Blk wr R 32 (markCells 0 0 0)) ∧ Hid (Blk wr (R + 1) 32 (markCells h g k)) ∧ Hid (Kp Nb w wr)

set_option maxRecDepth 100000 in
set_option maxHeartbeats 400000 in
theorem mark_any (v : Value) (ps : List (List Int)) (w : World) (hp : PsSl w v ps) (hsz : ps.flatten.length < 4611686018427387904) :
    Calls Try.prog 17 #[v] w fun e w' => e = .returned (markVal (markA ps.flatten) (markB ps.flatten)) ∧ Kp Nb w w' := by
  have HP := hid hp
  have HZ := hid hsz
  clear hp hsz
  go_enter Try.func17, Try.ntmps17
  go_wp2_with fail
  refine (seed_any 1 _).mono ?_
  rintro e w1 ⟨rfl, k1⟩
  have HP1 := hid (HP.out.kept (((((Kp.refl Nb w).alloc _).alloc _)).trans k1 (fun _ _ h => h)))
  have b0 : Blk w1 w.heap.size 32 (markCells 0 0 0) := ((Blk.new w 32 (markCells 0 0 0)).alloc _).kept k1 (fun h => h)
  have b1 : Blk w1 (w.heap.size + 1) 32 (markCells 0 0 0) := by
    have h := Blk.new (w.alloc (.cells (markCells 0 0 0).toArray 32)) 32 (markCells 0 0 0)
    rw [World.size_alloc] at h
    exact h.kept k1 (fun h => h)
  have HB0 := hid b0
  have HB1 := hid b1
  have HK1 := hid ((((Kp.refl Nb w).alloc _).alloc _).trans k1 (fun _ _ h => h))
  clear k1 b0 b1
  go_wp2_with fail
  refine (hash_any _ _ v ps _ HP1.out HZ.out).mono ?_
  rintro e w2 ⟨rfl, k2⟩
  have HK2 := hid k2
  clear k2
  go_wp2_with fail
  refine (seed_any 2 _).mono ?_
  rintro e w3 ⟨rfl, k3⟩
  have HP3 := hid (HP1.out.kept (HK2.out.trans k3 (fun _ _ h => h)))
  have HK3 := hid k3
  clear k3
  go_wp2_with fail
  refine (hash_any _ _ v ps _ HP3.out HZ.out).mono ?_
  rintro e w4 ⟨rfl, k4⟩
  have HK4 := hid k4
  clear k4
  go_wp2
  have HK := hid ((HK1.out.trans HK2.out (fun _ _ h => h)).trans (HK3.out.trans HK4.out (fun _ _ h => h)) (fun _ _ h => h))
  have hk14 := HK2.out.trans (HK3.out.trans HK4.out (fun _ _ h => h)) (fun _ _ h => h)
  have HR := hid (HB0.out.kept hk14 (fun h => h))
  have HM := hid (HB1.out.kept hk14 (fun h => h))
  clear HB0 HB1 HK1 HK2 HK3 HK4 HP1 HP3 hk14
  obtain ⟨h, hh⟩ : ∃ h, h = hash (seedA 1) (seedB 1) ps.flatten := ⟨_, rfl⟩
  obtain ⟨g, hg⟩ : ∃ g, g = hash (seedA 2) (seedB 2) ps.flatten := ⟨_, rfl⟩
  obtain ⟨R, hR⟩ : ∃ R, R = w.heap.size := ⟨_, rfl⟩
  rw [← hh, ← hg, ← hR]
  rw [← hR] at HR HM
  have HH := hid hh
  have HG := hid hg
  have HRR := hid hR
  clear hh hg hR
  go_loopw [13] (MarkR w R h g) (fun i _ => 8 - (intOf i).toNat)
  case atStart => exact ⟨0, Nat.zero_le _, rfl, HR.out, HM.out, HK.out⟩
  case round =>
    clear HR HM HK
    obtain ⟨k, hk, rfl, hr, hm, hkp⟩ := hrel
    by_cases hlt : k < 8
    · obtain ⟨u, v', hu, hv⟩ := markCells_get h g k hlt
      have c1 := (hm.out.cell k).trans hu
      have c2 := (hm.out.cell (8 + k)).trans hv
      have hf := hm.out.frozen
      have hsh : (0 : Int) ≤ 56 - 8 * (k : Int) := by omega
      have HRel := hid (show MarkR w R h g (.int .i64 ((k : Int) + 1)) ((wr.setCell ⟨R + 1, k, none⟩ (.int .u8 (byteOf h k))).setCell ⟨R + 1, 8 + k, none⟩ (.int .u8 (byteOf g k))) from
        ⟨k + 1, by omega, by go_num, (hr.out.other ⟨R + 1, k, none⟩ (by simp) _).other ⟨R + 1, 8 + k, none⟩ (by simp) _, by unfold Hid; rw [← markCells_succ h g k hlt]; exact (hm.out.set k _).set (8 + k) _, (hkp.out.new (by have := HRR.out; omega) _ _).new (by have := HRR.out; omega) _ _⟩)
      clear hu hv
      go_wp2
      exact ⟨HRel.out, by simp [intOf]; omega⟩
    · obtain rfl : k = 8 := by omega
      have f0 : wr.cell? ⟨R + 1, 0, none⟩ = some (.int .u8 (byteOf h 0)) := hm.out.cell 0
      have f1 : wr.cell? ⟨R + 1, 1, none⟩ = some (.int .u8 (byteOf h 1)) := hm.out.cell 1
      have f2 : wr.cell? ⟨R + 1, 2, none⟩ = some (.int .u8 (byteOf h 2)) := hm.out.cell 2
      have f3 : wr.cell? ⟨R + 1, 3, none⟩ = some (.int .u8 (byteOf h 3)) := hm.out.cell 3
      have f4 : wr.cell? ⟨R + 1, 4, none⟩ = some (.int .u8 (byteOf h 4)) := hm.out.cell 4
      have f5 : wr.cell? ⟨R + 1, 5, none⟩ = some (.int .u8 (byteOf h 5)) := hm.out.cell 5
      have f6 : wr.cell? ⟨R + 1, 6, none⟩ = some (.int .u8 (byteOf h 6)) := hm.out.cell 6
      have f7 : wr.cell? ⟨R + 1, 7, none⟩ = some (.int .u8 (byteOf h 7)) := hm.out.cell 7
      have f8 : wr.cell? ⟨R + 1, 8, none⟩ = some (.int .u8 (byteOf g 0)) := hm.out.cell 8
      have f9 : wr.cell? ⟨R + 1, 9, none⟩ = some (.int .u8 (byteOf g 1)) := hm.out.cell 9
      have f10 : wr.cell? ⟨R + 1, 10, none⟩ = some (.int .u8 (byteOf g 2)) := hm.out.cell 10
      have f11 : wr.cell? ⟨R + 1, 11, none⟩ = some (.int .u8 (byteOf g 3)) := hm.out.cell 11
      have f12 : wr.cell? ⟨R + 1, 12, none⟩ = some (.int .u8 (byteOf g 4)) := hm.out.cell 12
      have f13 : wr.cell? ⟨R + 1, 13, none⟩ = some (.int .u8 (byteOf g 5)) := hm.out.cell 13
      have f14 : wr.cell? ⟨R + 1, 14, none⟩ = some (.int .u8 (byteOf g 6)) := hm.out.cell 14
      have f15 : wr.cell? ⟨R + 1, 15, none⟩ = some (.int .u8 (byteOf g 7)) := hm.out.cell 15
      have z0 : wr.cell? ⟨R, 0, none⟩ = some (.int .u8 0) := hr.out.cell 0
      have z1 : wr.cell? ⟨R, 1, none⟩ = some (.int .u8 0) := hr.out.cell 1
      have z2 : wr.cell? ⟨R, 2, none⟩ = some (.int .u8 0) := hr.out.cell 2
      have z3 : wr.cell? ⟨R, 3, none⟩ = some (.int .u8 0) := hr.out.cell 3
      have z4 : wr.cell? ⟨R, 4, none⟩ = some (.int .u8 0) := hr.out.cell 4
      have z5 : wr.cell? ⟨R, 5, none⟩ = some (.int .u8 0) := hr.out.cell 5
      have z6 : wr.cell? ⟨R, 6, none⟩ = some (.int .u8 0) := hr.out.cell 6
      have z7 : wr.cell? ⟨R, 7, none⟩ = some (.int .u8 0) := hr.out.cell 7
      have z8 : wr.cell? ⟨R, 8, none⟩ = some (.int .u8 0) := hr.out.cell 8
      have z9 : wr.cell? ⟨R, 9, none⟩ = some (.int .u8 0) := hr.out.cell 9
      have z10 : wr.cell? ⟨R, 10, none⟩ = some (.int .u8 0) := hr.out.cell 10
      have z11 : wr.cell? ⟨R, 11, none⟩ = some (.int .u8 0) := hr.out.cell 11
      have z12 : wr.cell? ⟨R, 12, none⟩ = some (.int .u8 0) := hr.out.cell 12
      have z13 : wr.cell? ⟨R, 13, none⟩ = some (.int .u8 0) := hr.out.cell 13
      have z14 : wr.cell? ⟨R, 14, none⟩ = some (.int .u8 0) := hr.out.cell 14
      have z15 : wr.cell? ⟨R, 15, none⟩ = some (.int .u8 0) := hr.out.cell 15
      have hf := hr.out.frozen
      have hRw : w.heap.size ≤ R := Nat.le_of_eq HRR.out.symm
      have HRw := hid hRw
      clear hRw
      go_wp2
      have hRw := HRw.out
      generalize hW : World.setCell _ ⟨R, 15, none⟩ _ = Wf
      have HF : Hid (Blk Wf R 32 (markCells h g 8)) := by rw [← hW]; exact ((((((((((((((((hr.out.set 0 _).set 1 _).set 2 _).set 3 _).set 4 _).set 5 _).set 6 _).set 7 _).set 8 _).set 9 _).set 10 _).set 11 _).set 12 _).set 13 _).set 14 _).set 15 _)
      have HKF : Hid (Kp Nb w Wf) := by rw [← hW]; exact ((((((((((((((((hkp.out.new hRw 0 _).new hRw 1 _).new hRw 2 _).new hRw 3 _).new hRw 4 _).new hRw 5 _).new hRw 6 _).new hRw 7 _).new hRw 8 _).new hRw 9 _).new hRw 10 _).new hRw 11 _).new hRw 12 _).new hRw 13 _).new hRw 14 _).new hRw 15 _)
      clear hW
      have y0 : Wf.cell? ⟨R, 0, none⟩ = some (.int .u8 (byteOf h 0)) := HF.out.cell 0
      have y1 : Wf.cell? ⟨R, 1, none⟩ = some (.int .u8 (byteOf h 1)) := HF.out.cell 1
      have y2 : Wf.cell? ⟨R, 2, none⟩ = some (.int .u8 (byteOf h 2)) := HF.out.cell 2
      have y3 : Wf.cell? ⟨R, 3, none⟩ = some (.int .u8 (byteOf h 3)) := HF.out.cell 3
      have y4 : Wf.cell? ⟨R, 4, none⟩ = some (.int .u8 (byteOf h 4)) := HF.out.cell 4
      have y5 : Wf.cell? ⟨R, 5, none⟩ = some (.int .u8 (byteOf h 5)) := HF.out.cell 5
      have y6 : Wf.cell? ⟨R, 6, none⟩ = some (.int .u8 (byteOf h 6)) := HF.out.cell 6
      have y7 : Wf.cell? ⟨R, 7, none⟩ = some (.int .u8 (byteOf h 7)) := HF.out.cell 7
      have y8 : Wf.cell? ⟨R, 8, none⟩ = some (.int .u8 (byteOf g 0)) := HF.out.cell 8
      have y9 : Wf.cell? ⟨R, 9, none⟩ = some (.int .u8 (byteOf g 1)) := HF.out.cell 9
      have y10 : Wf.cell? ⟨R, 10, none⟩ = some (.int .u8 (byteOf g 2)) := HF.out.cell 10
      have y11 : Wf.cell? ⟨R, 11, none⟩ = some (.int .u8 (byteOf g 3)) := HF.out.cell 11
      have y12 : Wf.cell? ⟨R, 12, none⟩ = some (.int .u8 (byteOf g 4)) := HF.out.cell 12
      have y13 : Wf.cell? ⟨R, 13, none⟩ = some (.int .u8 (byteOf g 5)) := HF.out.cell 13
      have y14 : Wf.cell? ⟨R, 14, none⟩ = some (.int .u8 (byteOf g 6)) := HF.out.cell 14
      have y15 : Wf.cell? ⟨R, 15, none⟩ = some (.int .u8 (byteOf g 7)) := HF.out.cell 15
      refine bodyPost_ret (v := markVal h g) (by simp [results, Try.results17, go_sem, y0, y1, y2, y3, y4, y5, y6, y7, y8, y9, y10, y11, y12, y13, y14, y15]; rfl) rfl ⟨?_, HKF.out⟩
      rw [HH.out, HG.out]
      rfl

/-- The same, its sixteen bytes written out. -/
theorem mark_lit (v : Value) (ps : List (List Int)) (w : World) (hp : PsSl w v ps) (hsz : ps.flatten.length < 4611686018427387904) :
    Calls Try.prog 17 #[v] w fun e w' => e = .returned (.agg #[.int .u8 (byteOf (markA ps.flatten) 0), .int .u8 (byteOf (markA ps.flatten) 1), .int .u8 (byteOf (markA ps.flatten) 2), .int .u8 (byteOf (markA ps.flatten) 3), .int .u8 (byteOf (markA ps.flatten) 4), .int .u8 (byteOf (markA ps.flatten) 5), .int .u8 (byteOf (markA ps.flatten) 6), .int .u8 (byteOf (markA ps.flatten) 7), .int .u8 (byteOf (markB ps.flatten) 0), .int .u8 (byteOf (markB ps.flatten) 1), .int .u8 (byteOf (markB ps.flatten) 2), .int .u8 (byteOf (markB ps.flatten) 3), .int .u8 (byteOf (markB ps.flatten) 4), .int .u8 (byteOf (markB ps.flatten) 5), .int .u8 (byteOf (markB ps.flatten) 6), .int .u8 (byteOf (markB ps.flatten) 7)]) ∧ Kp Nb w w' := mark_any v ps w hp hsz

end Go.Proofs.Ytfbpaakgifnmaaa
