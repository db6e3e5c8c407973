/-
  Layer 23: the walk of TimerStops. Condition: what an int is.
-/
import Derived.Test.YtofbehkooklimaaTimN
import Derived.Test.YtofbehkooklimaaRanges
namespace Go.Proofs.Ytofbehkooklimaa
open Go.RowKit

theorem Tm.quiet {t : Tm} {now : Int} (h : heldZ now < t.due) : t.says now = 0 ∧ t.next now = t := ⟨if_pos (.inr h), if_pos (.inr h)⟩
def StR (w : World) (B L : Nat) (i : Value) (wr : World) : Prop :=
  ∃ (j : Nat) (t : Tm), j ≤ L ∧ i = .int .i64 j ∧ Hid (t.Ok ∧ t.runs = false) ∧ Hid (TimAt wr B t) ∧ Hid (Kp Nb w wr)

set_option maxRecDepth 100000 in
set_option maxHeartbeats 2000000 in
theorem stops_law (e t : Int) (v : Value) (zs : List Int) (w : World) (hv : IntIn w v zs) :
    Calls Try.prog 8 #[.int .i64 e, .int .i64 t, v] w fun r w' => r = .returned (.bool true) ∧ Kp Nb w w' := by
  obtain ⟨x, c, hsh⟩ := hv.shape
  have HV := hid hv
  clear hv
  subst hsh
  cases hf : tfitsB e t with
  | false =>
    have CN : Hid (∀ w, Calls Try.prog 23 #[.int .i64 e, .int .i64 t] w fun r w' => r = .returned (.tuple #[.pointer none, .int .i64 2]) ∧ w = w') := fun w => (tnew_any e t w).mono fun _ _ h => by
      rcases h with ⟨h, _⟩ | ⟨_, hr, hw⟩
      · rw [hf] at h; cases h
      · exact ⟨hr, hw.symm⟩
    clear hf
    go_enter Try.func8, Try.ntmps8
    go_wp2_with fail
    refine (first23_any _).mono ?_
    rintro r w1 ⟨rfl, k1⟩
    have K1 := hid k1
    clear k1
    go_wp2_with (go_at_call 23; refine (CN.out _).mono ?_; rintro r w' ⟨rfl, rfl⟩)
    go_ret
    exact ⟨rfl, K1.out⟩
  | true =>
    have CN : Hid (∀ w, Calls Try.prog 23 #[.int .i64 e, .int .i64 t] w fun r w' => r = .returned (.tuple #[.pointer (some ⟨w.heap.size, 0, none⟩), .int .i64 0]) ∧ TimAt w' w.heap.size (Tm.new e t) ∧ Kp Nb w w') := fun w => (tnew_any e t w).mono fun _ _ h => by
      rcases h with ⟨_, hr, hw⟩ | ⟨h, _⟩
      · subst hw
        exact ⟨hr, Blk.new w _ _, (Kp.refl Nb w).alloc _⟩
      · rw [hf] at h; cases h
    have HOK := hid (Tm.new_ok hf)
    clear hf
    go_enter Try.func8, Try.ntmps8
    go_wp2_with fail
    refine (first23_any _).mono ?_
    rintro r w1 ⟨rfl, k1⟩
    have K1 := hid k1
    clear k1
    go_wp2_with fail
    refine (CN.out _).mono ?_
    rintro r w2 ⟨rfl, h2, k2⟩
    obtain ⟨B, hB⟩ : ∃ B, B = w1.heap.size := ⟨_, rfl⟩
    rw [← hB] at h2 ⊢
    have HBB : Hid (w.heap.size ≤ B) := by have := K1.out.size; unfold Hid; omega
    have H2 := hid h2
    have K2 := hid (K1.out.trans k2 (fun _ _ h => h))
    clear h2 k2 hB
    go_wp2_with fail
    go_loopw [29] (fun i wr => StR w B zs.length i wr) (fun i _ => zs.length - (intOf i).toNat)
    case atStart => exact ⟨0, Tm.new e t, Nat.zero_le _, rfl, ⟨HOK.out, rfl⟩, H2, K2⟩
    case round =>
      obtain ⟨j, m, hj, rfl, HO, HT, HK⟩ := hrel
      clear H2 K2
      by_cases hlt : j < zs.length
      · by_cases h60 : 60 < j
        · rcases HV.out with ⟨hnil, _⟩ | ⟨blk, off, cap, hv, hcap, hm, hcell⟩
          · subst hnil; simp at hlt
          · obtain ⟨rfl, rfl⟩ : x = some ⟨blk, off, none⟩ ∧ c = cap := by simpa using hv
            have q := HK.out.cell (hcell j hlt) (fun h => h)
            obtain ⟨Z, hZ⟩ : ∃ Z, Z = zs[j]?.getD 0 := ⟨_, rfl⟩
            rw [← hZ] at q
            clear hZ hv hcell
            go_wp2
            go_ret
            exact ⟨rfl, HK.out⟩
        · rcases HV.out with ⟨hnil, _⟩ | ⟨blk, off, cap, hv, hcap, hm, hcell⟩
          · subst hnil; simp at hlt
          · obtain ⟨rfl, rfl⟩ : x = some ⟨blk, off, none⟩ ∧ c = cap := by simpa using hv
            have q := HK.out.cell (hcell j hlt) (fun h => h)
            obtain ⟨Z, hZ⟩ : ∃ Z, Z = zs[j]?.getD 0 := ⟨_, rfl⟩
            rw [← hZ] at q
            clear hZ hv hcell
            obtain ⟨y1, y2⟩ := Tm.idle Z HO.out.2
            have hz := heldZ_le Z
            have e1 := HO.out.1.e1
            have e2 := HO.out.1.e2
            obtain ⟨D, hD⟩ : ∃ D, D = heldZ Z + m.every := ⟨_, rfl⟩
            have hD0 : 1 ≤ D ∧ D ≤ 1152921504606847976 := by omega
            have hs1 : (m.start Z).due = D := hD.symm
            obtain ⟨y3, y4⟩ := Tm.quiet (t := m.start Z) (now := D - 1) (by rw [hs1]; unfold heldZ; omega)
            obtain ⟨y5, y6⟩ := Tm.idle (t := (m.start Z).stop) D rfl
            have CT1 : Hid (∀ w, TimAt w B m → Calls Try.prog 28 #[.pointer (some ⟨B, 0, none⟩), .int .i64 Z] w fun r w' => r = .returned (.int .i64 0) ∧ TimAt w' B m ∧ Kp (Jb B) w w') := fun w h => by
              have := ttick_any B _ Z w h HO.out.1
              rw [y1, y2] at this
              exact this
            have CT2 : Hid (∀ w, TimAt w B (m.start Z) → Calls Try.prog 28 #[.pointer (some ⟨B, 0, none⟩), .int .i64 (D - 1)] w fun r w' => r = .returned (.int .i64 0) ∧ TimAt w' B (m.start Z) ∧ Kp (Jb B) w w') := fun w h => by
              have := ttick_any B _ (D - 1) w h (HO.out.1.start Z)
              rw [y3, y4] at this
              exact this
            have CT3 : Hid (∀ w, TimAt w B (m.start Z).stop → Calls Try.prog 28 #[.pointer (some ⟨B, 0, none⟩), .int .i64 D] w fun r w' => r = .returned (.int .i64 0) ∧ TimAt w' B (m.start Z).stop ∧ Kp (Jb B) w w') := fun w h => by
              have := ttick_any B _ D w h (HO.out.1.start Z).stop
              rw [y5, y6] at this
              exact this
            have CD1 : Hid (∀ w, TimAt w B (m.start Z) → Calls Try.prog 27 #[.pointer (some ⟨B, 0, none⟩)] w fun r w' => r = .returned (.tuple #[.int .i64 D, .bool true]) ∧ w = w') := fun w h => by
              have := tdue_any B _ w h
              rw [show (m.start Z).runs = true from rfl, if_pos rfl, hs1] at this
              exact this
            have CD2 : Hid (∀ w, TimAt w B (m.start Z).stop → Calls Try.prog 27 #[.pointer (some ⟨B, 0, none⟩)] w fun r w' => r = .returned (.tuple #[.int .i64 0, .bool false]) ∧ w = w') := fun w h => tdue_any B _ w h
            clear y1 y2 y3 y4 y5 y6 hs1 hD hz e1 e2
            obtain ⟨hD1, hD2⟩ := hD0
            go_wp2_with fail
            refine (CT1.out _ HT.out).mono ?_
            rintro r w3 ⟨rfl, h3, k3⟩
            have H3 := hid h3
            have K3 := hid (HK.out.trans k3 (fun i hi h => by have := HBB.out; unfold Jb at h; omega))
            clear h3 k3
            go_wp2_with fail
            refine (tstart_any B m Z _ H3.out HO.out.1).mono ?_
            rintro r w4 ⟨rfl, h4, k4⟩
            have H4 := hid h4
            have K4 := hid (K3.out.trans k4 (fun i hi h => by have := HBB.out; unfold Jb at h; omega))
            clear h4 k4
            go_wp2_with fail
            refine (CD1.out _ H4.out).mono ?_
            rintro r w' ⟨rfl, rfl⟩
            go_wp2_with fail
            refine (CT2.out _ H4.out).mono ?_
            rintro r w5 ⟨rfl, h5, k5⟩
            have H5 := hid h5
            have K5 := hid (K4.out.trans k5 (fun i hi h => by have := HBB.out; unfold Jb at h; omega))
            clear h5 k5
            go_wp2_with fail
            refine (tstop_any B _ _ H5.out).mono ?_
            rintro r w6 ⟨rfl, h6, k6⟩
            have H6 := hid h6
            have K6 := hid (K5.out.trans k6 (fun i hi h => by have := HBB.out; unfold Jb at h; omega))
            clear h6 k6
            go_wp2_with fail
            refine (CD2.out _ H6.out).mono ?_
            rintro r w' ⟨rfl, rfl⟩
            go_wp2_with fail
            refine (CT3.out _ H6.out).mono ?_
            rintro r w7 ⟨rfl, h7, k7⟩
            have H7 := hid h7
            have K7 := hid (K6.out.trans k7 (fun i hi h => by have := HBB.out; unfold Jb at h; omega))
            clear h7 k7 q
            go_wp2
            go_roundw
            case rel => exact ⟨j + 1, _, by omega, by go_num, ⟨(HO.out.1.start Z).stop, rfl⟩, H7, K7⟩
            case measure => simp [intOf]; omega
      · obtain rfl : j = zs.length := by omega
        go_wp2
        go_ret
        exact ⟨rfl, HK.out⟩

end Go.Proofs.Ytofbehkooklimaa
