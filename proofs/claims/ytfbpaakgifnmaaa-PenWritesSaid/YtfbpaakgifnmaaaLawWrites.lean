/-
  The statement of layer 2 on what pens write: the bytes are the document's. The walk. Conditions: what numbers of these types are; lists shorter than 2^62.
-/
import Derived.Test.YtfbpaakgifnmaaaPenW
namespace Go.Proofs.Ytfbpaakgifnmaaa
open Go.RowKit

def Gb (x : Option Addr) : Nat → Prop := fun k => (Value.slice x 0 0).ownBlock = some k
def XorR (x : Option Addr) (n : Nat) (w4 : World) (i : Value) (wr : World) : Prop :=
  ∃ j : Nat, j ≤ n ∧ i = .int .i64 j ∧ Hid (∀ g, x = some ⟨g, 0, none⟩ → ∀ k, k < n → ∃ z, wr.cell? ⟨g, k, none⟩ = some (.int .u8 z) ∧ wr.frozen? ⟨g, k, none⟩ = false) ∧ Hid (Kp (Gb x) w4 wr)

theorem xor_step {g n : Nat} {wr : World} (h : ∀ k, k < n → ∃ z, wr.cell? ⟨g, k, none⟩ = some (.int .u8 z) ∧ wr.frozen? ⟨g, k, none⟩ = false) (j : Nat) (hj : j < n) (y : Int) :
    ∀ k, k < n → ∃ z, (wr.setCell ⟨g, j, none⟩ (.int .u8 y)).cell? ⟨g, k, none⟩ = some (.int .u8 z) ∧ (wr.setCell ⟨g, j, none⟩ (.int .u8 y)).frozen? ⟨g, k, none⟩ = false := by
  intro k hk
  obtain ⟨z, h1, h2⟩ := h k hk
  by_cases e : k = j
  · subst e
    exact ⟨y, World.cell?_setCell_same' _ _ _ (by rw [h1]; rfl), by rw [World.frozen?_setCell]; exact h2⟩
  · refine ⟨z, ?_, by rw [World.frozen?_setCell]; exact h2⟩
    rw [← h1]
    exact World.cell?_setCell_other _ _ _ _ (by intro he; simp only [Addr.mk.injEq] at he; omega)

set_option maxRecDepth 100000 in
set_option maxHeartbeats 4000000 in
theorem writes_walk (v0 : Value) (os : Outs) (U n : Int) (w : World) (h : OutSl w v0 os) (ho : OutOk os) (u0 : 0 ≤ U) (u1 : U < 18446744073709551616) (n0 : -9223372036854775808 ≤ n) (n1 : n < 9223372036854775808) :
    Calls Try.prog 7 #[v0, .int .u64 U, .int .i64 n] w fun e w' => e = .returned (.bool true) ∧ Kp Nb w w' := by
  have H := hid h
  have HO := hid ho
  have HU := hid (And.intro u0 u1)
  have HN := hid (And.intro n0 n1)
  clear h ho u0 u1 n0 n1
  go_enter Try.func7, Try.ntmps7
  go_wp2_with fail
  refine (first2_any _).mono ?_
  rintro e w1 ⟨rfl, k1⟩
  have K1 := hid k1
  have H1 := hid (H.out.kept k1)
  clear k1
  go_wp2_with fail
  refine (great2_any v0 os _ H1.out HO.out).mono ?_
  rintro e w2 ⟨rfl, k2⟩
  have K2 := hid (K1.out.trans k2 (fun _ _ h => h))
  have H2 := hid (H1.out.kept k2)
  clear k2 K1 H1
  by_cases hg : 4000 < outSum os os.length
  · have hgt : decide (4000 < outSum os os.length) = true := by simpa using hg
    rw [hgt]
    go_wp2
    go_ret
    exact ⟨rfl, K2.out⟩
  · have hgt : decide (4000 < outSum os os.length) = false := by simpa using hg
    rw [hgt]
    have HG := hid (show outSum os os.length ≤ 4000 by omega)
    clear hg hgt
    go_wp2_with fail
    refine (written_any v0 os _ H2.out HO.out HG.out).mono ?_
    rintro e w3 ⟨B, vp, hB, rfl, hp, k3⟩
    have hlen := outAll_length os HO.out os.length
    have hg := HG.out
    obtain ⟨zs, hzs⟩ : ∃ zs, zs = outAll os os.length := ⟨_, rfl⟩
    rw [← hzs] at hp hlen ⊢
    have HLN : Hid (zs.length ≤ 4000) := by unfold Hid; omega
    have HP := hid hp
    have K3 := hid (K2.out.trans k3 (fun _ _ h => h))
    obtain ⟨S, hS⟩ : ∃ S, S = st zs := ⟨_, rfl⟩
    rw [← hS]
    have HS := hid hS
    clear hzs hp k3 hlen hg hS H2 K2 hB
    go_wp2_with fail
    refine (pen_bytes B vp zs _ HP.out (by have := HLN.out; omega)).mono ?_
    rintro e w4 ⟨r, rfl, o4, k4⟩
    obtain ⟨x, c, rfl⟩ := own_slice o4
    have hx : Hid (0 < zs.length → ∃ g, x = some ⟨g, 0, none⟩) := fun hp => by
      rcases o4.2 with ⟨_, h0⟩ | ⟨g, cap, cur, hv, _⟩
      · omega
      · simp only [Value.slice.injEq] at hv
        exact ⟨g, hv.1⟩
    have hcell : Hid (∀ g, x = some ⟨g, 0, none⟩ → ∀ k, k < zs.length → ∃ z, w4.cell? ⟨g, k, none⟩ = some (.int .u8 z) ∧ w4.frozen? ⟨g, k, none⟩ = false) := fun g hg k hk => by
      subst hg
      have c0 := World.ownsRow.cellAt o4 k (by omega)
      have f0 := World.ownsRow.frozenAt o4 k
      rw [List.getElem?_map, List.getElem?_eq_getElem hk] at c0
      exact ⟨_, c0, f0⟩
    have hcap : Hid (zs.length ≤ c) := by
      rcases o4.2 with ⟨hn, h0⟩ | ⟨g, cap, cur, hv, _, _, hle, _⟩
      · unfold Hid; omega
      · simp only [Value.slice.injEq] at hv
        unfold Hid; omega
    have hbase : Hid (∀ k, Gb x k → w3.heap.size ≤ k) := fun k hk => (o4.lt k (by cases x <;> exact hk)).1
    have HP4 := hid (HP.out.kept k4 (fun h => h) (fun _ _ h => h))
    have HBN : Hid (¬ Gb x B) := fun hk => by have := hbase.out B hk; have := HP.out.lt; omega
    have HVN : Hid (∀ g, vp.ownBlock = some g → ¬ Gb x g) := fun g hg hk => by have := hbase.out g hk; have := (HP.out.own.lt g hg).2; omega
    have K4 := hid (K3.out.trans k4 (fun _ _ h => h))
    have HWB : Hid (∀ k, k < w.heap.size → ¬ Gb x k) := fun k hk hh => by have := hbase.out k hh; have := K3.out.size; omega
    clear o4 k4 HP K3
    go_wp2
    go_loopw [25] (XorR x zs.length w4) (fun i _ => zs.length - (intOf i).toNat)
    case atStart => exact ⟨0, Nat.zero_le _, rfl, hcell, Kp.refl _ _⟩
    case round =>
      clear hcell
      obtain ⟨j, hj, rfl, hce, hkx⟩ := hrel
      by_cases hlt : j < zs.length
      · obtain ⟨g, rfl⟩ := hx.out (by omega)
        obtain ⟨z, c0, f0⟩ := hce.out g rfl j hlt
        have hj0 : (0 : Int) ≤ (j : Int) := by omega
        have hj1 : (j : Int) < (zs.length : Int) := by omega
        have hj2 : (zs.length : Int) ≤ 4000 := by have := HLN.out; omega
        have HR := hid (show XorR (some ⟨g, 0, none⟩) zs.length w4 (.int .i64 ((j : Int) + 1)) (wr.setCell ⟨g, j, none⟩ (.int .u8 (bits .xor .u8 z 255))) from
          ⟨j + 1, by omega, by go_num, fun g' hg' => by
            have : g = g' := by simpa using hg'
            subst this
            exact xor_step (hce.out g rfl) j hlt _, hkx.out.setCell (p := ⟨g, j, none⟩) (fun _ => rfl) _⟩)
        clear hce hkx
        go_wp2
        first
          | exact ⟨HR.out, by simp [intOf]; omega⟩
          | (go_roundw
             case rel => exact HR.out
             case measure => simp [intOf]; omega)
      · obtain rfl : j = zs.length := by omega
        have HP5 := hid (HP4.out.kept hkx.out HBN.out HVN.out)
        have K5 := hid (K4.out.trans hkx.out (fun i hi h => HWB.out i hi h))
        clear hce hkx HP4 K4
        go_wp2_with fail
        refine (nopen_number _ _).mono ?_
        rintro e wa ⟨rfl, rfl⟩
        go_wp2_with fail
        refine (nopen_text _ _ _ _).mono ?_
        rintro e wa ⟨rfl, rfl⟩
        go_wp2_with fail
        refine (nopen_fixed _ _).mono ?_
        rintro e wa ⟨rfl, rfl⟩
        go_wp2_with fail
        refine (nopen_signed _ _).mono ?_
        rintro e wa ⟨rfl, rfl⟩
        have HP6 := hid ((HP5.out.kept ((Kp.refl Nb wr).alloc (.cells #[.int .u8 1] 5)) (fun h => h) (fun _ _ h => h)).kept ((Kp.refl Nb _).alloc (.cells #[.int .u8 2] 5)) (fun h => h) (fun _ _ h => h))
        have K6 := hid ((K5.out.alloc (.cells #[.int .u8 1] 5)).alloc (.cells #[.int .u8 2] 5))
        clear HP5 K5
        go_wp2_with fail
        refine (pen_bytes B vp zs _ HP6.out (by have := HLN.out; omega)).mono ?_
        rintro e wb ⟨r2, rfl, o6, k6⟩
        have hcv := conv_any (BySl.ofOwn (S := Nb) o6 HP6.out.bytes (fun _ _ _ h => h))
        rw [← HS.out] at hcv
        have K7 := hid (K6.out.trans k6 (fun _ _ h => h))
        clear o6 k6 HP6 K6
        go_wp2_with fail
        refine (zig_any n _).mono ?_
        rintro e wc ⟨rfl, rfl⟩
        go_wp2_with fail
        refine (refn_zig n _ HN.out.1 HN.out.2).mono ?_
        rintro e wc ⟨rfl, rfl⟩
        go_wp2_with fail
        refine (zag_any U _ HU.out.1 HU.out.2).mono ?_
        rintro e wc ⟨rfl, rfl⟩
        go_wp2_with fail
        refine (refn_zag U _ HU.out.1 HU.out.2).mono ?_
        rintro e wc ⟨rfl, rfl⟩
        go_wp2_with fail
        refine (size_any U _ HU.out.1 HU.out.2).mono ?_
        rintro e wc ⟨rfl, rfl⟩
        go_wp2_with fail
        refine (refn_number U _ HU.out.1 HU.out.2).mono ?_
        rintro e wd ⟨rfl, kd⟩
        have hts : (st (numBytes U)).size = sizeN U := by rw [st_size]; exact numBytes_size U
        obtain ⟨T, hT⟩ : ∃ T, T = st (numBytes U) := ⟨_, rfl⟩
        rw [← hT] at hts ⊢
        have K8 := hid (K7.out.trans kd (fun _ _ h => h))
        clear hT kd K7 hcv
        go_wp2_with fail
        refine (nopen_bytes _).mono ?_
        rintro e we ⟨rfl, rfl⟩
        go_wp2
        go_ret
        exact ⟨rfl, K8.out⟩

end Go.Proofs.Ytfbpaakgifnmaaa
