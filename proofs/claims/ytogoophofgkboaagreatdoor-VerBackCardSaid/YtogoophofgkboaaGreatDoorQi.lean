/-
  Of the texts DtBa, OpenDf, DtAn what is used. No condition but what each says.
-/
import Derived.Test.YtogoophofgkboaaGreatDoorQh
import Derived.Shelf.Strconv.AtoiAll
import Derived.Test.YtogoophofgkboaaGreatDoorQe
import Derived.Deep.Strs
import Derived.Deep.Matrix
import Derived.ChangeMaps5
import Derived.LaidLaws
import Derived.Test.YtogoophofgkboaaGreatDoorQf
import Derived.Test.YtogoophofgkboaaGreatDoorQd
namespace Go.Proofs.YtogoophofgkboaaGreatDoor
section
open Go.RowKit
/-- The library's two errors lie in memory. -/
def Ev (w : World) : Prop := (∃ t p, w.cell? ⟨1, 0, none⟩ = some (.iface t p)) ∧ (∃ t p, w.cell? ⟨2, 0, none⟩ = some (.iface t p))
theorem Ev.keptS {S : Nat → Prop} {w w' : World} (h : Ev w) (k : Kp S w w') (h1 : ¬ S 1) (h2 : ¬ S 2) : Ev w' := by
  obtain ⟨⟨t, p, h⟩, ⟨u, q, g⟩⟩ := h
  exact ⟨⟨t, p, k.cell h h1⟩, ⟨u, q, k.cell g h2⟩⟩
theorem Ev.kept {w w' : World} (h : Ev w) (k : Kp Nb w w') : Ev w' := h.keptS k (fun h => h) (fun h => h)
theorem atoi_i64 {s : List UInt8} {v : Int} (h : Lib.atoiAll s = .ok v) : I64 v ∧ s ≠ [] := by
  unfold Lib.atoiAll at h
  split at h
  · cases h
  · dsimp only at h
    refine ⟨?_, by simp⟩
    split at h
    · cases h
    · cases h
    · split at h
      · cases h
      · split at h
        · cases h
        · rename_i h1 h2
          injection h with h
          unfold I64
          split at h <;> omega
theorem atoi_sat (s : List UInt8) : I64 (Lib.atoiSat s) := by unfold Lib.atoiSat I64; split <;> omega
theorem atoi_weak (s : List UInt8) (w : World) (hv : Ev w) (hl : s.length ≤ 1000000) :
    Calls Tryz.prog 128 #[.string (bs s)] w fun e w' => ∃ n, I64 n ∧ Kp Nb w w' ∧ ((e = .returned (.tuple #[.int .i64 n, .nilIface]) ∧ s ≠ []) ∨ ∃ N, e = .returned (.tuple #[.int .i64 n, .iface 174 (.pointer (some ⟨N, 0, none⟩))])) := by
  obtain ⟨⟨t1, p1, h1⟩, ⟨t2, p2, h2⟩⟩ := hv
  have hz : (bs s).size ≤ 1000000 := by rw [bs_size]; exact hl
  cases hA : Lib.atoiAll s
  · rename_i v
    obtain ⟨i1, i2⟩ := atoi_i64 hA
    refine Calls.mono (Any.strconv_Atoi_ok Tryz.laysC172 (bs s) (by omega) v hA w) ?_
    rintro e w' ⟨rfl, hw⟩
    refine ⟨v, i1, ?_, .inl ⟨rfl, i2⟩⟩
    rcases hw with rfl | ⟨t, rfl⟩
    · exact Kp.refl _ _
    · exact kp_below (Go.Joins.below_bytesWorld _ w _ t (Nat.le_refl _))
  · refine Calls.mono (Any.strconv_Atoi_syntax Tryz.laysC172 (bs s) (by omega) hA (.iface t1 p1) w h1 (.inr ⟨_, _, rfl⟩)) ?_
    rintro e w' ⟨N, rfl, -, -, hb⟩
    exact ⟨0, by unfold I64; omega, kp_below hb, .inr ⟨N, rfl⟩⟩
  · refine Calls.mono (Any.strconv_Atoi_range Tryz.laysC172 (bs s) (by omega) hA (.iface t2 p2) w h2 (.inr ⟨_, _, rfl⟩)) ?_
    rintro e w' ⟨N, rfl, -, -, hb⟩
    exact ⟨_, atoi_sat s, kp_below hb, .inr ⟨N, rfl⟩⟩
theorem cut_len {s sep a b : List UInt8} {t : Bool} (h : Lib.cut s sep = (a, b, t)) : a.length ≤ s.length ∧ b.length ≤ s.length := by
  unfold Lib.cut at h
  split at h
  · simp only [Prod.mk.injEq] at h
    obtain ⟨rfl, rfl, -⟩ := h
    rw [List.length_take, List.length_drop]
    omega
  · simp only [Prod.mk.injEq] at h
    obtain ⟨rfl, rfl, -⟩ := h
    exact ⟨Nat.le_refl _, Nat.zero_le _⟩
def PwR (w : World) (N M : Nat) (s : List UInt8) (i : Value) (wr : World) : Prop := ∃ (k : Nat) (x0 x1 x2 : Int), k ≤ 3 ∧ i = .int .i64 k ∧ Hid (I64 x0 ∧ I64 x1 ∧ I64 x2) ∧ Hid (0 < k → s ≠ []) ∧ Hid (Blk wr M 157 [.int .i64 x0, .int .i64 x1, .int .i64 x2]) ∧ Hid (Blk wr N 38 (runL (0, 0, 0))) ∧ Hid (Kp Nb w wr)
def RunOut (w : World) (s : List UInt8) (e : Ending) (w' : World) : Prop := ∃ (q : RunQ) (b : Bool), RunOk q ∧ (b = true → s ≠ []) ∧ e = .returned (.tuple #[runV q, .bool b]) ∧ Kp Nb w w'
set_option maxRecDepth 100000 in
set_option maxHeartbeats 4000000 in
theorem prun_weak (s : List UInt8) (w : World) (hl : s.length ≤ 1000000) (hm : Mx w) (hv : Ev w) : Calls Tryz.prog 113 #[.string (bs s)] w (RunOut w s) := by
  obtain ⟨⟨la, ld, b1⟩, hc1⟩ : ∃ x, Lib.cut s [58] = x := ⟨_, rfl⟩
  obtain ⟨⟨lf, lt, b2⟩, hc2⟩ : ∃ x, Lib.cut ld [45] = x := ⟨_, rfl⟩
  have l1 := cut_len hc1
  have l2 := cut_len hc2
  have hne : la ≠ [] → s ≠ [] := fun h e => by
    subst e
    exact h (List.length_eq_zero_iff.1 (by have := l1.1; rw [List.length_nil] at this; omega))
  have HNE := hid hne
  have HMX := hid hm
  have HEV := hid hv
  have A1 : Hid (∀ wx, Ev wx → Calls Tryz.prog 128 #[.string (bs la)] wx fun e w' => ∃ n, I64 n ∧ Kp Nb wx w' ∧ ((e = .returned (.tuple #[.int .i64 n, .nilIface]) ∧ la ≠ []) ∨ ∃ N, e = .returned (.tuple #[.int .i64 n, .iface 174 (.pointer (some ⟨N, 0, none⟩))]))) := hid (fun wx h => atoi_weak la wx h (by omega))
  have A2 : Hid (∀ wx, Ev wx → Calls Tryz.prog 128 #[.string (bs lf)] wx fun e w' => ∃ n, I64 n ∧ Kp Nb wx w' ∧ ((e = .returned (.tuple #[.int .i64 n, .nilIface]) ∧ lf ≠ []) ∨ ∃ N, e = .returned (.tuple #[.int .i64 n, .iface 174 (.pointer (some ⟨N, 0, none⟩))]))) := hid (fun wx h => atoi_weak lf wx h (by omega))
  have A3 : Hid (∀ wx, Ev wx → Calls Tryz.prog 128 #[.string (bs lt)] wx fun e w' => ∃ n, I64 n ∧ Kp Nb wx w' ∧ ((e = .returned (.tuple #[.int .i64 n, .nilIface]) ∧ lt ≠ []) ∨ ∃ N, e = .returned (.tuple #[.int .i64 n, .iface 174 (.pointer (some ⟨N, 0, none⟩))]))) := hid (fun wx h => atoi_weak lt wx h (by omega))
  have C1 : Hid (∀ wx, Mx wx → Calls Tryz.prog 73 #[.string (bs s), .string ⟨#[58]⟩] wx fun e w' => e = .returned (.tuple #[.string (bs la), .string (bs ld), .bool b1]) ∧ Kp Nb wx w') := hid (fun wx h => cut_any _ [58] _ _ _ wx h (by omega) hc1)
  have C2 : Hid (∀ wx, Mx wx → Calls Tryz.prog 73 #[.string (bs ld), .string ⟨#[45]⟩] wx fun e w' => e = .returned (.tuple #[.string (bs lf), .string (bs lt), .bool b2]) ∧ Kp Nb wx w') := hid (fun wx h => cut_any _ [45] _ _ _ wx h (by omega) hc2)
  obtain ⟨S, hS⟩ : ∃ x, bs s = x := ⟨_, rfl⟩
  obtain ⟨sr, hsr⟩ : ∃ x, bs ld = x := ⟨_, rfl⟩
  obtain ⟨sn, hsn⟩ : ∃ x, bs la = x := ⟨_, rfl⟩
  obtain ⟨sf, hsf⟩ : ∃ x, bs lf = x := ⟨_, rfl⟩
  obtain ⟨st', hst⟩ : ∃ x, bs lt = x := ⟨_, rfl⟩
  rw [hS, hsn, hsr] at C1
  rw [hsr, hsf, hst] at C2
  rw [hsn] at A1
  rw [hsf] at A2
  rw [hst] at A3
  rw [hS]
  clear hm hv hS hsr hsn hsf hst hc1 hc2 l1 l2 hne hl
  obtain ⟨N, hN⟩ : ∃ N, w.heap.size = N := ⟨_, rfl⟩
  obtain ⟨W, hW⟩ : ∃ W, W = w.alloc (.cells #[.int .i64 0, .int .i64 0, .int .i64 0] 38) := ⟨_, rfl⟩
  have HB0 : Hid (Blk W N 38 (runL (0, 0, 0))) := hid (by rw [hW, ← hN]; exact Blk.new w _ _)
  have K0 : Hid (Kp Nb w W) := hid (by rw [hW]; exact (Kp.refl Nb w).alloc _)
  have HM0 := hid (HMX.out.kept K0.out)
  have HNW : Hid (w.heap.size = N) := hid hN
  go_enter Tryz.func113, Tryz.ntmps113
  go_upto_region 1 with fail
  rw [← hW]
  clear hW hN
  go_wp2_with fail
  refine (C1.out W HM0.out).mono ?_
  rintro r w1 ⟨rfl, k1⟩
  have B1 := hid (HB0.out.kept k1 (fun h => h))
  have K1 := hid (K0.out.trans k1 (fun _ _ h => h))
  have M1 := hid (HM0.out.kept k1)
  clear k1
  go_wp2_with fail
  refine (C2.out w1 M1.out).mono ?_
  rintro r w2 ⟨rfl, k2⟩
  have B2 := hid (B1.out.kept k2 (fun h => h))
  have K2 := hid (K1.out.trans k2 (fun _ _ h => h))
  clear k2
  obtain ⟨M, hM⟩ : ∃ M, w2.heap.size = M := ⟨_, rfl⟩
  obtain ⟨W3, hW3⟩ : ∃ W, W = w2.alloc (.cells #[.int .i64 0, .int .i64 0, .int .i64 0] 157) := ⟨_, rfl⟩
  have HZ3 : Hid (Blk W3 M 157 [.int .i64 0, .int .i64 0, .int .i64 0]) := hid (by rw [hW3, ← hM]; exact Blk.new w2 _ _)
  have HB3 : Hid (Blk W3 N 38 (runL (0, 0, 0))) := hid (by rw [hW3]; exact B2.out.alloc _)
  have K3 : Hid (Kp Nb w W3) := hid (by rw [hW3]; exact K2.out.alloc _)
  have HMN : Hid (N ≠ M ∧ w.heap.size ≤ N ∧ w.heap.size ≤ M) := hid (by have := B2.out.lt; have := K2.out.size; have := HNW.out; omega)
  have HZI : Hid (I64 0 ∧ I64 0 ∧ I64 0) := hid (by unfold I64; omega)
  cases b2 with
  | true =>
    go_upto_region 6 with fail
    rw [← hW3]
    clear hW3 hM
    go_wp2
    go_loopw [34] (PwR w N M s) (fun i _ => 3 - (intOf i).toNat)
    case atStart => exact ⟨0, 0, 0, 0, by omega, rfl, HZI, hid (fun h => absurd h (by omega)), HZ3, HB3, K3⟩
    case round =>
      obtain ⟨k, x0, x1, x2, hk, rfl, HI, HSN, HZ, HN, HK⟩ := hrel
      obtain rfl | rfl | rfl | rfl : k = 0 ∨ k = 1 ∨ k = 2 ∨ k = 3 := by omega
      · have ix := idx3_0 sn sf st'
        have e2 : 2 < 3 := by decide
        have cz : wr.cell? ⟨M, 0, none⟩ = some (.int .i64 x0) := HZ.out.cell 0
        go_wp2_with fail
        refine (A1.out wr (HEV.out.kept HK.out)).mono ?_
        rintro r w5 ⟨n, hn, k5, he⟩
        have HNN := hid hn
        have HZ5 := hid (HZ.out.kept k5 (fun h => h))
        have HN5 := hid (HN.out.kept k5 (fun h => h))
        have HK5 := hid (HK.out.trans k5 (fun _ _ h => h))
        clear k5 hn cz
        rcases he with ⟨rfl, hs⟩ | ⟨NE, rfl⟩
        · have HSX : Hid (0 < 0 + 1 → s ≠ []) := hid (fun _ => HNE.out hs)
          have fz := HZ5.out.frozen 0
          have ck : w5.cell? ⟨M, 0, none⟩ = some (.int .i64 x0) := HZ5.out.cell 0
          have HZ6 : Hid (Blk (w5.setCell ⟨M, 0, none⟩ (.int .i64 n)) M 157 [.int .i64 n, .int .i64 x1, .int .i64 x2]) := hid (HZ5.out.set 0 _)
          have HN6 : Hid (Blk (w5.setCell ⟨M, 0, none⟩ (.int .i64 n)) N 38 (runL (0, 0, 0))) := hid (HN5.out.kept (S := Jb M) ((Kp.refl (Jb M) w5).set 0 _) (fun h => HMN.out.1 h))
          have HK6 : Hid (Kp Nb w (w5.setCell ⟨M, 0, none⟩ (.int .i64 n))) := hid (HK5.out.setCell (p := ⟨M, 0, none⟩) (fun h => by have := HMN.out; dsimp only at h; omega) _)
          have HI6 : Hid (I64 n ∧ I64 x1 ∧ I64 x2) := hid ⟨HNN.out, HI.out.2.1, HI.out.2.2⟩
          go_wp2
          go_roundw
          case rel => exact ⟨0 + 1, n, x1, x2, by omega, by go_num, HI6, HSX, HZ6, HN6, HK6⟩
          case measure => simp [intOf]
        · have TH := hid (run_there (q := (0, 0, 0)) HN5.out)
          have HW := hid (row_set (vs := runL (0, 0, 0)) (cs := runL (0, 0, 0)) HN5.out rfl)
          have HKW : Hid (Kp Nb w (w5.setCells N 0 (runL (0, 0, 0)))) := hid (Kp.setCells (fun h => absurd h (by have := HMN.out; omega)) _ 0 _ HK5.out)
          obtain ⟨fs, hfs⟩ := under_run
          go_wp2_with (first
            | (refine wpList_store_mid (by rfl) 38 (.tmp 2) (.tmp 45) (by rfl) N 0 (runL (0, 0, 0)).toArray (by rfl) (by rfl) TH.out (run_infoA (0, 0, 0)) (run_one (0, 0, 0)) ?_))
          refine bodyPost_ret (results_ctD rfl _ N (by rfl) (runV (0, 0, 0)) (.bool false) (by rfl) (row_loadVar Tryz.underlying38 rfl (run_infoL (0, 0, 0)) HW.out 0 (fun j _ => by rw [Nat.zero_add]))) rfl ⟨(0, 0, 0), false, HZI.out, (fun h => by cases h), rfl, HKW.out⟩
      · have ix := idx3_1 sn sf st'
        have e2 : 2 < 3 := by decide
        have cz : wr.cell? ⟨M, 1, none⟩ = some (.int .i64 x1) := HZ.out.cell 1
        go_wp2_with fail
        refine (A2.out wr (HEV.out.kept HK.out)).mono ?_
        rintro r w5 ⟨n, hn, k5, he⟩
        have HNN := hid hn
        have HZ5 := hid (HZ.out.kept k5 (fun h => h))
        have HN5 := hid (HN.out.kept k5 (fun h => h))
        have HK5 := hid (HK.out.trans k5 (fun _ _ h => h))
        clear k5 hn cz
        rcases he with ⟨rfl, hs⟩ | ⟨NE, rfl⟩
        · have HSX : Hid (0 < 1 + 1 → s ≠ []) := hid (fun _ => HSN.out (by omega))
          have fz := HZ5.out.frozen 1
          have ck : w5.cell? ⟨M, 1, none⟩ = some (.int .i64 x1) := HZ5.out.cell 1
          have HZ6 : Hid (Blk (w5.setCell ⟨M, 1, none⟩ (.int .i64 n)) M 157 [.int .i64 x0, .int .i64 n, .int .i64 x2]) := hid (HZ5.out.set 1 _)
          have HN6 : Hid (Blk (w5.setCell ⟨M, 1, none⟩ (.int .i64 n)) N 38 (runL (0, 0, 0))) := hid (HN5.out.kept (S := Jb M) ((Kp.refl (Jb M) w5).set 1 _) (fun h => HMN.out.1 h))
          have HK6 : Hid (Kp Nb w (w5.setCell ⟨M, 1, none⟩ (.int .i64 n))) := hid (HK5.out.setCell (p := ⟨M, 1, none⟩) (fun h => by have := HMN.out; dsimp only at h; omega) _)
          have HI6 : Hid (I64 x0 ∧ I64 n ∧ I64 x2) := hid ⟨HI.out.1, HNN.out, HI.out.2.2⟩
          go_wp2
          go_roundw
          case rel => exact ⟨1 + 1, x0, n, x2, by omega, by go_num, HI6, HSX, HZ6, HN6, HK6⟩
          case measure => simp [intOf]
        · have TH := hid (run_there (q := (0, 0, 0)) HN5.out)
          have HW := hid (row_set (vs := runL (0, 0, 0)) (cs := runL (0, 0, 0)) HN5.out rfl)
          have HKW : Hid (Kp Nb w (w5.setCells N 0 (runL (0, 0, 0)))) := hid (Kp.setCells (fun h => absurd h (by have := HMN.out; omega)) _ 0 _ HK5.out)
          obtain ⟨fs, hfs⟩ := under_run
          go_wp2_with (first
            | (refine wpList_store_mid (by rfl) 38 (.tmp 2) (.tmp 45) (by rfl) N 0 (runL (0, 0, 0)).toArray (by rfl) (by rfl) TH.out (run_infoA (0, 0, 0)) (run_one (0, 0, 0)) ?_))
          refine bodyPost_ret (results_ctD rfl _ N (by rfl) (runV (0, 0, 0)) (.bool false) (by rfl) (row_loadVar Tryz.underlying38 rfl (run_infoL (0, 0, 0)) HW.out 0 (fun j _ => by rw [Nat.zero_add]))) rfl ⟨(0, 0, 0), false, HZI.out, (fun h => by cases h), rfl, HKW.out⟩
      · have ix := idx3_2 sn sf st'
        have e2 : 2 < 3 := by decide
        have cz : wr.cell? ⟨M, 2, none⟩ = some (.int .i64 x2) := HZ.out.cell 2
        go_wp2_with fail
        refine (A3.out wr (HEV.out.kept HK.out)).mono ?_
        rintro r w5 ⟨n, hn, k5, he⟩
        have HNN := hid hn
        have HZ5 := hid (HZ.out.kept k5 (fun h => h))
        have HN5 := hid (HN.out.kept k5 (fun h => h))
        have HK5 := hid (HK.out.trans k5 (fun _ _ h => h))
        clear k5 hn cz
        rcases he with ⟨rfl, hs⟩ | ⟨NE, rfl⟩
        · have HSX : Hid (0 < 2 + 1 → s ≠ []) := hid (fun _ => HSN.out (by omega))
          have fz := HZ5.out.frozen 2
          have ck : w5.cell? ⟨M, 2, none⟩ = some (.int .i64 x2) := HZ5.out.cell 2
          have HZ6 : Hid (Blk (w5.setCell ⟨M, 2, none⟩ (.int .i64 n)) M 157 [.int .i64 x0, .int .i64 x1, .int .i64 n]) := hid (HZ5.out.set 2 _)
          have HN6 : Hid (Blk (w5.setCell ⟨M, 2, none⟩ (.int .i64 n)) N 38 (runL (0, 0, 0))) := hid (HN5.out.kept (S := Jb M) ((Kp.refl (Jb M) w5).set 2 _) (fun h => HMN.out.1 h))
          have HK6 : Hid (Kp Nb w (w5.setCell ⟨M, 2, none⟩ (.int .i64 n))) := hid (HK5.out.setCell (p := ⟨M, 2, none⟩) (fun h => by have := HMN.out; dsimp only at h; omega) _)
          have HI6 : Hid (I64 x0 ∧ I64 x1 ∧ I64 n) := hid ⟨HI.out.1, HI.out.2.1, HNN.out⟩
          go_wp2
          go_roundw
          case rel => exact ⟨2 + 1, x0, x1, n, by omega, by go_num, HI6, HSX, HZ6, HN6, HK6⟩
          case measure => simp [intOf]
        · have TH := hid (run_there (q := (0, 0, 0)) HN5.out)
          have HW := hid (row_set (vs := runL (0, 0, 0)) (cs := runL (0, 0, 0)) HN5.out rfl)
          have HKW : Hid (Kp Nb w (w5.setCells N 0 (runL (0, 0, 0)))) := hid (Kp.setCells (fun h => absurd h (by have := HMN.out; omega)) _ 0 _ HK5.out)
          obtain ⟨fs, hfs⟩ := under_run
          go_wp2_with (first
            | (refine wpList_store_mid (by rfl) 38 (.tmp 2) (.tmp 45) (by rfl) N 0 (runL (0, 0, 0)).toArray (by rfl) (by rfl) TH.out (run_infoA (0, 0, 0)) (run_one (0, 0, 0)) ?_))
          refine bodyPost_ret (results_ctD rfl _ N (by rfl) (runV (0, 0, 0)) (.bool false) (by rfl) (row_loadVar Tryz.underlying38 rfl (run_infoL (0, 0, 0)) HW.out 0 (fun j _ => by rw [Nat.zero_add]))) rfl ⟨(0, 0, 0), false, HZI.out, (fun h => by cases h), rfl, HKW.out⟩
      · have c0 : wr.cell? ⟨M, 0, none⟩ = some (.int .i64 x0) := HZ.out.cell 0
        have c1 : wr.cell? ⟨M, 1, none⟩ = some (.int .i64 x1) := HZ.out.cell 1
        have c2 : wr.cell? ⟨M, 2, none⟩ = some (.int .i64 x2) := HZ.out.cell 2
        have TH := hid (run_there (q := (x0, x1, x2)) HN.out)
        have HW := hid (row_set (vs := runL (0, 0, 0)) (cs := runL (x0, x1, x2)) HN.out rfl)
        have HKW : Hid (Kp Nb w (wr.setCells N 0 (runL (x0, x1, x2)))) := hid (Kp.setCells (fun h => absurd h (by have := HMN.out; omega)) _ 0 _ HK.out)
        obtain ⟨fs, hfs⟩ := under_run
        go_wp2_with (first
          | (refine wpList_store_mid (by rfl) 38 (.tmp 2) (.tmp 56) (by rfl) N 0 (runL (x0, x1, x2)).toArray (by rfl) (by rfl) TH.out (run_infoA (x0, x1, x2)) (run_one (x0, x1, x2)) ?_))
        refine bodyPost_ret (results_ctD rfl _ N (by rfl) (runV (x0, x1, x2)) (.bool true) (by rfl) (row_loadVar Tryz.underlying38 rfl (run_infoL (x0, x1, x2)) HW.out 0 (fun j _ => by rw [Nat.zero_add]))) rfl ⟨(x0, x1, x2), true, HI.out, (fun _ => HSN.out (by omega)), rfl, HKW.out⟩
  | false =>
    go_upto_region 6 with fail
    rw [← hW3]
    clear hW3 hM
    go_wp2
    go_loopw [34] (PwR w N M s) (fun i _ => 3 - (intOf i).toNat)
    case atStart => exact ⟨0, 0, 0, 0, by omega, rfl, HZI, hid (fun h => absurd h (by omega)), HZ3, HB3, K3⟩
    case round =>
      obtain ⟨k, x0, x1, x2, hk, rfl, HI, HSN, HZ, HN, HK⟩ := hrel
      obtain rfl | rfl | rfl | rfl : k = 0 ∨ k = 1 ∨ k = 2 ∨ k = 3 := by omega
      · have ix := idx3_0 sn sf sf
        have e2 : 2 < 3 := by decide
        have cz : wr.cell? ⟨M, 0, none⟩ = some (.int .i64 x0) := HZ.out.cell 0
        go_wp2_with fail
        refine (A1.out wr (HEV.out.kept HK.out)).mono ?_
        rintro r w5 ⟨n, hn, k5, he⟩
        have HNN := hid hn
        have HZ5 := hid (HZ.out.kept k5 (fun h => h))
        have HN5 := hid (HN.out.kept k5 (fun h => h))
        have HK5 := hid (HK.out.trans k5 (fun _ _ h => h))
        clear k5 hn cz
        rcases he with ⟨rfl, hs⟩ | ⟨NE, rfl⟩
        · have HSX : Hid (0 < 0 + 1 → s ≠ []) := hid (fun _ => HNE.out hs)
          have fz := HZ5.out.frozen 0
          have ck : w5.cell? ⟨M, 0, none⟩ = some (.int .i64 x0) := HZ5.out.cell 0
          have HZ6 : Hid (Blk (w5.setCell ⟨M, 0, none⟩ (.int .i64 n)) M 157 [.int .i64 n, .int .i64 x1, .int .i64 x2]) := hid (HZ5.out.set 0 _)
          have HN6 : Hid (Blk (w5.setCell ⟨M, 0, none⟩ (.int .i64 n)) N 38 (runL (0, 0, 0))) := hid (HN5.out.kept (S := Jb M) ((Kp.refl (Jb M) w5).set 0 _) (fun h => HMN.out.1 h))
          have HK6 : Hid (Kp Nb w (w5.setCell ⟨M, 0, none⟩ (.int .i64 n))) := hid (HK5.out.setCell (p := ⟨M, 0, none⟩) (fun h => by have := HMN.out; dsimp only at h; omega) _)
          have HI6 : Hid (I64 n ∧ I64 x1 ∧ I64 x2) := hid ⟨HNN.out, HI.out.2.1, HI.out.2.2⟩
          go_wp2
          go_roundw
          case rel => exact ⟨0 + 1, n, x1, x2, by omega, by go_num, HI6, HSX, HZ6, HN6, HK6⟩
          case measure => simp [intOf]
        · have TH := hid (run_there (q := (0, 0, 0)) HN5.out)
          have HW := hid (row_set (vs := runL (0, 0, 0)) (cs := runL (0, 0, 0)) HN5.out rfl)
          have HKW : Hid (Kp Nb w (w5.setCells N 0 (runL (0, 0, 0)))) := hid (Kp.setCells (fun h => absurd h (by have := HMN.out; omega)) _ 0 _ HK5.out)
          obtain ⟨fs, hfs⟩ := under_run
          go_wp2_with (first
            | (refine wpList_store_mid (by rfl) 38 (.tmp 2) (.tmp 45) (by rfl) N 0 (runL (0, 0, 0)).toArray (by rfl) (by rfl) TH.out (run_infoA (0, 0, 0)) (run_one (0, 0, 0)) ?_))
          refine bodyPost_ret (results_ctD rfl _ N (by rfl) (runV (0, 0, 0)) (.bool false) (by rfl) (row_loadVar Tryz.underlying38 rfl (run_infoL (0, 0, 0)) HW.out 0 (fun j _ => by rw [Nat.zero_add]))) rfl ⟨(0, 0, 0), false, HZI.out, (fun h => by cases h), rfl, HKW.out⟩
      · have ix := idx3_1 sn sf sf
        have e2 : 2 < 3 := by decide
        have cz : wr.cell? ⟨M, 1, none⟩ = some (.int .i64 x1) := HZ.out.cell 1
        go_wp2_with fail
        refine (A2.out wr (HEV.out.kept HK.out)).mono ?_
        rintro r w5 ⟨n, hn, k5, he⟩
        have HNN := hid hn
        have HZ5 := hid (HZ.out.kept k5 (fun h => h))
        have HN5 := hid (HN.out.kept k5 (fun h => h))
        have HK5 := hid (HK.out.trans k5 (fun _ _ h => h))
        clear k5 hn cz
        rcases he with ⟨rfl, hs⟩ | ⟨NE, rfl⟩
        · have HSX : Hid (0 < 1 + 1 → s ≠ []) := hid (fun _ => HSN.out (by omega))
          have fz := HZ5.out.frozen 1
          have ck : w5.cell? ⟨M, 1, none⟩ = some (.int .i64 x1) := HZ5.out.cell 1
          have HZ6 : Hid (Blk (w5.setCell ⟨M, 1, none⟩ (.int .i64 n)) M 157 [.int .i64 x0, .int .i64 n, .int .i64 x2]) := hid (HZ5.out.set 1 _)
          have HN6 : Hid (Blk (w5.setCell ⟨M, 1, none⟩ (.int .i64 n)) N 38 (runL (0, 0, 0))) := hid (HN5.out.kept (S := Jb M) ((Kp.refl (Jb M) w5).set 1 _) (fun h => HMN.out.1 h))
          have HK6 : Hid (Kp Nb w (w5.setCell ⟨M, 1, none⟩ (.int .i64 n))) := hid (HK5.out.setCell (p := ⟨M, 1, none⟩) (fun h => by have := HMN.out; dsimp only at h; omega) _)
          have HI6 : Hid (I64 x0 ∧ I64 n ∧ I64 x2) := hid ⟨HI.out.1, HNN.out, HI.out.2.2⟩
          go_wp2
          go_roundw
          case rel => exact ⟨1 + 1, x0, n, x2, by omega, by go_num, HI6, HSX, HZ6, HN6, HK6⟩
          case measure => simp [intOf]
        · have TH := hid (run_there (q := (0, 0, 0)) HN5.out)
          have HW := hid (row_set (vs := runL (0, 0, 0)) (cs := runL (0, 0, 0)) HN5.out rfl)
          have HKW : Hid (Kp Nb w (w5.setCells N 0 (runL (0, 0, 0)))) := hid (Kp.setCells (fun h => absurd h (by have := HMN.out; omega)) _ 0 _ HK5.out)
          obtain ⟨fs, hfs⟩ := under_run
          go_wp2_with (first
            | (refine wpList_store_mid (by rfl) 38 (.tmp 2) (.tmp 45) (by rfl) N 0 (runL (0, 0, 0)).toArray (by rfl) (by rfl) TH.out (run_infoA (0, 0, 0)) (run_one (0, 0, 0)) ?_))
          refine bodyPost_ret (results_ctD rfl _ N (by rfl) (runV (0, 0, 0)) (.bool false) (by rfl) (row_loadVar Tryz.underlying38 rfl (run_infoL (0, 0, 0)) HW.out 0 (fun j _ => by rw [Nat.zero_add]))) rfl ⟨(0, 0, 0), false, HZI.out, (fun h => by cases h), rfl, HKW.out⟩
      · have ix := idx3_2 sn sf sf
        have e2 : 2 < 3 := by decide
        have cz : wr.cell? ⟨M, 2, none⟩ = some (.int .i64 x2) := HZ.out.cell 2
        go_wp2_with fail
        refine (A2.out wr (HEV.out.kept HK.out)).mono ?_
        rintro r w5 ⟨n, hn, k5, he⟩
        have HNN := hid hn
        have HZ5 := hid (HZ.out.kept k5 (fun h => h))
        have HN5 := hid (HN.out.kept k5 (fun h => h))
        have HK5 := hid (HK.out.trans k5 (fun _ _ h => h))
        clear k5 hn cz
        rcases he with ⟨rfl, hs⟩ | ⟨NE, rfl⟩
        · have HSX : Hid (0 < 2 + 1 → s ≠ []) := hid (fun _ => HSN.out (by omega))
          have fz := HZ5.out.frozen 2
          have ck : w5.cell? ⟨M, 2, none⟩ = some (.int .i64 x2) := HZ5.out.cell 2
          have HZ6 : Hid (Blk (w5.setCell ⟨M, 2, none⟩ (.int .i64 n)) M 157 [.int .i64 x0, .int .i64 x1, .int .i64 n]) := hid (HZ5.out.set 2 _)
          have HN6 : Hid (Blk (w5.setCell ⟨M, 2, none⟩ (.int .i64 n)) N 38 (runL (0, 0, 0))) := hid (HN5.out.kept (S := Jb M) ((Kp.refl (Jb M) w5).set 2 _) (fun h => HMN.out.1 h))
          have HK6 : Hid (Kp Nb w (w5.setCell ⟨M, 2, none⟩ (.int .i64 n))) := hid (HK5.out.setCell (p := ⟨M, 2, none⟩) (fun h => by have := HMN.out; dsimp only at h; omega) _)
          have HI6 : Hid (I64 x0 ∧ I64 x1 ∧ I64 n) := hid ⟨HI.out.1, HI.out.2.1, HNN.out⟩
          go_wp2
          go_roundw
          case rel => exact ⟨2 + 1, x0, x1, n, by omega, by go_num, HI6, HSX, HZ6, HN6, HK6⟩
          case measure => simp [intOf]
        · have TH := hid (run_there (q := (0, 0, 0)) HN5.out)
          have HW := hid (row_set (vs := runL (0, 0, 0)) (cs := runL (0, 0, 0)) HN5.out rfl)
          have HKW : Hid (Kp Nb w (w5.setCells N 0 (runL (0, 0, 0)))) := hid (Kp.setCells (fun h => absurd h (by have := HMN.out; omega)) _ 0 _ HK5.out)
          obtain ⟨fs, hfs⟩ := under_run
          go_wp2_with (first
            | (refine wpList_store_mid (by rfl) 38 (.tmp 2) (.tmp 45) (by rfl) N 0 (runL (0, 0, 0)).toArray (by rfl) (by rfl) TH.out (run_infoA (0, 0, 0)) (run_one (0, 0, 0)) ?_))
          refine bodyPost_ret (results_ctD rfl _ N (by rfl) (runV (0, 0, 0)) (.bool false) (by rfl) (row_loadVar Tryz.underlying38 rfl (run_infoL (0, 0, 0)) HW.out 0 (fun j _ => by rw [Nat.zero_add]))) rfl ⟨(0, 0, 0), false, HZI.out, (fun h => by cases h), rfl, HKW.out⟩
      · have c0 : wr.cell? ⟨M, 0, none⟩ = some (.int .i64 x0) := HZ.out.cell 0
        have c1 : wr.cell? ⟨M, 1, none⟩ = some (.int .i64 x1) := HZ.out.cell 1
        have c2 : wr.cell? ⟨M, 2, none⟩ = some (.int .i64 x2) := HZ.out.cell 2
        have TH := hid (run_there (q := (x0, x1, x2)) HN.out)
        have HW := hid (row_set (vs := runL (0, 0, 0)) (cs := runL (x0, x1, x2)) HN.out rfl)
        have HKW : Hid (Kp Nb w (wr.setCells N 0 (runL (x0, x1, x2)))) := hid (Kp.setCells (fun h => absurd h (by have := HMN.out; omega)) _ 0 _ HK.out)
        obtain ⟨fs, hfs⟩ := under_run
        go_wp2_with (first
          | (refine wpList_store_mid (by rfl) 38 (.tmp 2) (.tmp 56) (by rfl) N 0 (runL (x0, x1, x2)).toArray (by rfl) (by rfl) TH.out (run_infoA (x0, x1, x2)) (run_one (x0, x1, x2)) ?_))
        refine bodyPost_ret (results_ctD rfl _ N (by rfl) (runV (x0, x1, x2)) (.bool true) (by rfl) (row_loadVar Tryz.underlying38 rfl (run_infoL (x0, x1, x2)) HW.out 0 (fun j _ => by rw [Nat.zero_add]))) rfl ⟨(x0, x1, x2), true, HI.out, (fun _ => HSN.out (by omega)), rfl, HKW.out⟩
theorem spl_no (c : UInt8) : ∀ (s : List UInt8) (p : List (List UInt8) × List UInt8), (∀ y ∈ p.1 ++ [p.2], c ∉ y) → ∀ y ∈ (s.foldl (splF c) p).1 ++ [(s.foldl (splF c) p).2], c ∉ y
  | [], p, h => h
  | b :: s, p, h => by
    rw [List.foldl_cons]
    refine spl_no c s _ ?_
    unfold splF
    split
    · intro y hy
      dsimp only at hy
      rcases List.mem_append.1 hy with hy | hy
      · exact h y hy
      · rw [List.mem_singleton.1 hy]; simp
    · rename_i hb
      intro y hy
      dsimp only at hy
      rcases List.mem_append.1 hy with hy | hy
      · exact h y (List.mem_append.2 (.inl hy))
      · rw [List.mem_singleton.1 hy]
        intro hm
        rcases List.mem_append.1 hm with hm | hm
        · exact h p.2 (by simp) hm
        · exact hb (List.mem_singleton.1 hm).symm
theorem splL_no (c : UInt8) (s : List UInt8) : ∀ y ∈ splL c s, c ∉ y := spl_no c s ([], []) (by simp)
abbrev strV (l : List UInt8) : Value := .string (bs l)
theorem dsplit_any (s : List UInt8) (w : World) (hm : Mx w) (hl : s.length ≤ 1000000) :
    Calls Tryz.prog 112 #[.string (bs s), .string ⟨#[32]⟩] w fun e w' => e = .returned (.slice (some ⟨w.heap.size, 0, none⟩) (splL 32 s).length (splL 32 s).length) ∧ w' = w.alloc (.cells ((splL 32 s).map strV).toArray 9) := by
  obtain ⟨m, hm⟩ := hm
  obtain ⟨q0, R, hq⟩ := spl_some 32 s
  have hno := splL_no 32 s
  have hj := spl_join 32 s
  rw [hq] at hno hj ⊢
  obtain ⟨s1, s2⟩ := split_join 32 q0 R hno
  rw [hj] at s1 s2
  have h := Tryz.strings_Split (bs s) (bs [32]) m w (by rw [bs_size]; omega) hm (by decide)
  rw [s1, s2, List.map_map] at h
  rw [List.length_cons]
  exact h
def PdR (w : World) (N : Nat) (ws : List (List UInt8)) (s : List UInt8) (u i : Value) (wr : World) : Prop := ∃ (k : Nat) (c : List RunQ), k ≤ ws.length ∧ i = .int .i64 k ∧ Hid (c.length = k) ∧ Hid (0 < k → s ≠ []) ∧ Hid (wr.ownsRow (N + 1) 38 3 u c.length (flatR runL c)) ∧ Hid (∀ q ∈ c, RunOk q) ∧ Hid (Blk wr N 9 (ws.map strV)) ∧ Hid (Kp Nb w wr)
set_option maxRecDepth 100000 in
set_option maxHeartbeats 4000000 in
theorem dparse_none (s : List UInt8) (w : World) (hl : s.length ≤ 1000) (hno : parT s = none) (hm : Mx w) (hv : Ev w) (ht : Tab w) :
    Calls Tryz.prog 99 #[.string (bs s)] w fun e w' => e = .returned (.tuple #[.slice none 0 0, .bool false]) ∧ Kp Nb w w' := by
  have h0 : s ≠ [45] := fun e => by rw [e] at hno; cases hno
  have HNC : Hid (∀ c, s ≠ [] → textC c ≠ s) := hid (fun c hs e => by
    cases hr : rightC c with
    | true => have := (parT_iff s c).2 ⟨hr, e⟩; rw [hno] at this; cases this
    | false => unfold textC at e; rw [hr] at e; exact hs e.symm)
  obtain ⟨ws, hws⟩ : ∃ ws, splL 32 s = ws := ⟨_, rfl⟩
  have HMEM : Hid (∀ x ∈ ws, x.length ≤ 1000 ∧ (x ≠ [] → s ≠ [])) := hid (fun x hx => by
    have h := spl_mem (c := 32) (s := s) (x := x) (by rw [hws]; exact hx)
    refine ⟨by omega, fun hx0 e => hx0 (List.length_eq_zero_iff.1 ?_)⟩
    rw [e, List.length_nil] at h
    omega)
  have hwl : ws.length ≤ 1001 := by rw [← hws]; unfold splL; rw [List.length_append, List.length_singleton]; have := (splS_len 32 s).1; omega
  have hw0 : 0 < ws.length := by rw [← hws]; unfold splL; simp
  obtain ⟨L, hL⟩ : ∃ L, ws.length = L := ⟨_, rfl⟩
  have HLE := hid hL
  have HBG : Hid (0 < L ∧ L ≤ 1001) := hid (by omega)
  have HMX := hid hm
  have HEV := hid hv
  have HTB := hid ht
  obtain ⟨N, hN⟩ : ∃ N, w.heap.size = N := ⟨_, rfl⟩
  obtain ⟨W, hW⟩ : ∃ W, W = w.alloc (.cells (ws.map strV).toArray 9) := ⟨_, rfl⟩
  have HB0 : Hid (Blk W N 9 (ws.map strV)) := hid (by rw [hW, ← hN]; exact Blk.new w _ _)
  have K0 : Hid (Kp Nb w W) := hid (by rw [hW]; exact (Kp.refl Nb w).alloc _)
  have HNW : Hid (w.heap.size = N) := hid hN
  have CS : Hid (Calls Tryz.prog 112 #[.string (bs s), .string ⟨#[32]⟩] w fun e w' => e = .returned (.slice (some ⟨N, 0, none⟩) L L) ∧ w' = W) := hid (by
    have h := dsplit_any s w hm (by omega)
    rw [hws, hN, hL, ← hW] at h
    exact h)
  have hne : bs s ≠ ⟨#[45]⟩ := fun e => h0 (by have := congrArg (fun x : ByteArray => x.data.toList) e; exact this)
  have hq : ((bs s).toList == [45]) = false := by
    rw [bs_toList, beq_eq_false_iff_ne]
    exact h0
  obtain ⟨S, hS⟩ : ∃ S, bs s = S := ⟨_, rfl⟩
  have HTN : Hid (∀ c, s ≠ [] → bs (textC c) ≠ S ∧ ((bs (textC c)).toList == S.toList) = false) := hid (fun c hs => by
    have h := HNC.out c hs
    rw [← hS]
    refine ⟨fun e => h (by have := congrArg (fun x : ByteArray => x.data.toList) e; exact this), ?_⟩
    rw [bs_toList, bs_toList, beq_eq_false_iff_ne]
    exact h)
  rw [hS] at CS hne hq ⊢
  clear hm hv ht hno h0 hws hwl hw0 hL hN hW hS HNC hl
  go_enter Tryz.func99, Tryz.ntmps99
  go_wp2_with fail
  refine CS.out.mono ?_
  rintro r w1 ⟨rfl, rfl⟩
  clear hne hq
  go_wp2_with fail
  go_loopw [4, 14] (PdR w N ws s) (fun _ i _ => L - (intOf i).toNat)
  case atStart => exact ⟨0, [], Nat.zero_le _, rfl, hid rfl, hid (fun h => absurd h (by omega)), hid (World.ownsRow_nil _ _ _ _), hid (by simp), HB0, K0⟩
  case round =>
    obtain ⟨k, c, hk, rfl, HCL, HSN, HO, HOKS, HB, HK⟩ := hrel
    rw [HLE.out] at hk
    rw [HCL.out] at HO
    obtain ⟨a4, c4, rfl⟩ := own_shape HO.out
    by_cases hlt : k < L
    · have HLT := hid hlt
      have hkc : k < ws.length := by rw [HLE.out]; exact hlt
      obtain ⟨wk, hwk⟩ : ∃ x, ws[k]? = some x := ⟨_, List.getElem?_eq_getElem hkc⟩
      have hmk := HMEM.out wk (List.mem_of_getElem? hwk)
      have HWE := hid hmk.2
      have ck : wr.cell? ⟨N, k, none⟩ = some (.string (bs wk)) := by
        rw [HB.out.cell k, List.getElem?_map, hwk]
        rfl
      have CP := hid (prun_weak wk wr (by omega) (HMX.out.kept HK.out) (HEV.out.kept HK.out))
      obtain ⟨tv, htv⟩ : ∃ s, bs wk = s := ⟨_, rfl⟩
      rw [htv] at CP ck
      clear htv hwk hkc hmk
      go_wp2_with fail
      refine CP.out.mono ?_
      rintro r w6 ⟨⟨qn, qf, qt⟩, b, hqo, hqb, rfl, k6⟩
      have HQO := hid hqo
      have HQB := hid hqb
      have HO6 := hid (ownsRow_kpD HO.out k6)
      have HB6 := hid (HB.out.kept k6 (fun h => h))
      have HK6 := hid (HK.out.trans k6 (fun _ _ h => h))
      clear k6 ck hqo hqb CP
      obtain ⟨M, hM⟩ : ∃ M, w6.heap.size = M := ⟨_, rfl⟩
      obtain ⟨W8, hW8⟩ : ∃ W, W = (w6.alloc (.cells (runL (0, 0, 0)).toArray 38)).setCells M 0 (runL (qn, qf, qt)) := ⟨_, rfl⟩
      have hz := Blk.new w6 38 (runL (0, 0, 0))
      rw [hM] at hz
      have KW8 : Hid (Kp Nb w6 W8) := hid (by rw [hW8]; exact Kp.setCells (fun h => absurd h (by omega)) _ 0 _ ((Kp.refl Nb w6).alloc _))
      have TH := hid (run_there (q := (qn, qf, qt)) hz)
      have HZ8 : Hid (Blk W8 M 38 (runL (qn, qf, qt))) := hid (by rw [hW8]; exact row_set hz rfl)
      have RZ := hid (range_ofR HZ8.out)
      have HO8 := hid (ownsRow_kpD HO6.out KW8.out)
      have HB8 := hid (HB6.out.kept KW8.out (fun h => h))
      have HK8 := hid (HK6.out.trans KW8.out (fun _ _ h => h))
      have MK := hid (make_run1 W8 qn qf qt)
      obtain ⟨fs, hfs⟩ := under_run
      clear hz
      go_upto_region 8 with (first
        | (refine wpList_store_mid (by rfl) 38 (.tmp 7) (.tmp 21) (by rfl) M 0 (runL (qn, qf, qt)).toArray (by rfl) (by rfl) TH.out (run_infoA (qn, qf, qt)) (run_one (qn, qf, qt)) ?_))
      rw [show (w6.alloc (.cells #[.int .i64 0, .int .i64 0, .int .i64 0] 38)).setCells M 0 (runL (qn, qf, qt)) = W8 from hW8.symm]
      clear hW8 hM TH
      cases b with
      | false =>
        go_wp2
        go_ret2
        exact ⟨rfl, HK8.out⟩
      | true =>
        obtain ⟨i0, zz, hi, hz0, hz1, hz2, hz3⟩ := run_info3
        have B2 : Hid (k + [(qn, qf, qt)].length ≤ maxLen ∧ (k + [(qn, qf, qt)].length) * 24 ≤ 140737488355328 ∧ N + 1 ≤ (W8.alloc (.cells #[.int .i64 qn, .int .i64 qf, .int .i64 qt] 38 (0, 0))).heap.size) := hid (by
          have h1 := HB8.out.lt
          have h2 := ((Kp.refl Nb W8).alloc (.cells #[.int .i64 qn, .int .i64 qf, .int .i64 qt] 38 (0, 0))).size
          refine ⟨?_, ?_, by omega⟩ <;> rw [List.length_singleton]
          · unfold maxLen; have := HBG.out; omega
          · have := HBG.out; omega)
        go_wp2_with (first
          | (refine wpList_load_mid (by rfl) 38 (.tmp 7) (by rfl) M 0 (by rfl) (runL (qn, qf, qt)) _ RZ.out hfs rfl (run_infoL (qn, qf, qt)) ?_)
          | (refine wpList_val (by rfl) _ _ (exec_buildSliceD rfl (qs := #[(0, .agg #[.int .i64 qn, .int .i64 qf, .int .i64 qt])]) (by simp [Act.eval, Act.put]) MK.out) ?_)
          | (at_builtin; refine wpList_append_rows (f := runL) (z := (0, 0, 0)) (c := 3) rfl _ _ 25 rfl (N + 1) 38 i0 zz 24 under_clock hi hz0 hz1 hz2 hz3 (by decide) _ _ _ rfl (ownsRow_kpD HO8.out ((Kp.refl Nb _).alloc _)) _ [(qn, qf, qt)] rfl (rows_oneR (Blk.new _ _ _)) (fun x hx => rfl) (fun x _ => run_one' x) B2.out.1 B2.out.2.1 B2.out.2.2 ?_))
        intro v10 w10 hown hgrow
        have HK10 : Hid (Kp Nb w w10) := hid ((HK8.out.trans ((Kp.refl Nb W8).alloc (.cells #[.int .i64 qn, .int .i64 qf, .int .i64 qt] 38 (0, 0))) (fun _ _ h => h)).grown hgrow (fun g hg h => by have := (row_cells HO8.out hg).1; have := HNW.out; omega))
        have HB10 : Hid (Blk w10 N 9 (ws.map strV)) := hid ((hgrow.block N (HB8.out.alloc _).lt (fun h => by have := (row_cells HO8.out h.symm).1; omega)).trans (HB8.out.alloc _))
        have HO10 : Hid (w10.ownsRow (N + 1) 38 3 v10 (c ++ [(qn, qf, qt)]).length (flatR runL (c ++ [(qn, qf, qt)]))) := hid (by rw [List.length_append, HCL.out, flatR_append]; exact hown)
        have HOK10 : Hid (∀ q ∈ c ++ [(qn, qf, qt)], RunOk q) := hid (fun q hq => by
          rcases List.mem_append.1 hq with hq | hq
          · exact HOKS.out q hq
          · rw [List.mem_singleton.1 hq]; exact HQO.out)
        have HCL10 : Hid ((c ++ [(qn, qf, qt)]).length = k + 1) := hid (by rw [List.length_append, HCL.out]; rfl)
        have HSN10 : Hid (0 < k + 1 → s ≠ []) := hid (fun _ => HWE.out (HQB.out (by trivial)))
        obtain ⟨a10, c10, rfl⟩ := own_shape hown
        clear hown hgrow
        have hb9 := HBG.out
        go_wp2
        go_roundw
        case rel => exact ⟨k + 1, c ++ [(qn, qf, qt)], by rw [HLE.out]; exact HLT.out, by go_num, HCL10, HSN10, HO10, HOK10, HB10, HK10⟩
        case measure => have := HLT.out; simp [intOf]; omega
    · obtain rfl : k = L := by omega
      have HM : Hid (ClSl wr (.slice a4 k c4) c) := hid (by
        have h := HO.out
        rw [← HCL.out] at h ⊢
        exact cl_owned h HOKS.out)
      have C9 := hid (dtext_any (.slice a4 k c4) c wr HM.out (by have := HCL.out; have := HBG.out; omega) (HTB.out.kept HK.out))
      obtain ⟨tn1, tn2⟩ := HTN.out c (HSN.out HBG.out.1)
      obtain ⟨T, hT⟩ : ∃ T, bs (textC c) = T := ⟨_, rfl⟩
      rw [hT] at C9 tn1 tn2
      clear hT
      go_wp2_with fail
      refine C9.out.mono ?_
      rintro r w9 ⟨rfl, k9⟩
      have HK9 := hid (HK.out.trans k9 (fun _ _ h => h))
      clear k9
      go_wp2
      go_ret2
      exact ⟨rfl, HK9.out⟩
theorem dparse_any (s : List UInt8) (w : World) (hl : s.length ≤ 1000) (hm : Mx w) (hv : Ev w) (ht : Tab w) : Calls Tryz.prog 99 #[.string (bs s)] w (ParOut w (parT s)) := by
  cases hp : parT s with
  | none =>
    refine (dparse_none s w hl hp hm hv ht).mono ?_
    rintro e w' ⟨rfl, k⟩
    exact ⟨_, rfl, cl_nil _, k⟩
  | some c =>
    obtain ⟨hr, hs⟩ := (parT_iff s c).1 hp
    have h := parse_any c w hr (by have := parT_len hp; omega) hm ht
    rw [hs] at h
    refine h.mono ?_
    rintro e w' ⟨v', rfl, h1, -, h3⟩
    exact ⟨v', rfl, h1, h3⟩
end
section
open Go.ChangeShapes Go.WideShapes Go.ChangeAt Go.RowKit
theorem cells_byte : Tryz.prog.cellsOf 5 = 1 := by kernel_rfl
/-- A slice's cell, whatever its type: its block is there. -/
theorem cell_in {P : Program} {W : World} {base : Nat} {u : TypeId} {a : Addr} {n c : Nat} (h : Cell.okWide P W .any base u (.slice (some a) n c)) : a.block < W.heap.size := by
  have hs : ∃ row cells, W.shape? a.block = some (row, cells) := by
    cases hu : P.underlying u with
    | none => simp [Cell.okWide, Cell.ok, hu] at h
    | some td =>
      cases td <;> simp only [Cell.okWide, Cell.ok, hu] at h
      obtain ⟨_, _, row, cells, hs, _⟩ := h.2.2
      exact ⟨row, cells, hs⟩
  obtain ⟨row, cells, hs⟩ := hs
  rcases Nat.lt_or_ge a.block W.heap.size with h | h
  · exact h
  · exfalso
    have : W.heap[a.block]? = none := Array.getElem?_eq_none h
    simp [World.shape?, this] at hs
theorem agg_in {P : Program} {W : World} {base : Nat} {t : TypeId} {fs : Array Field} {cs : Array Value} (hu : P.underlying t = some (.struct fs)) (hv : Value.okWide P W .any base t (.agg cs)) {i : Nat} {y : Option Addr} {n c : Nat} (hi : cs[i]? = some (.slice y n c)) :
    ∀ g, (Value.slice y n c).ownBlock = some g → g < W.heap.size := by
  unfold Value.okWide at hv
  rw [hu] at hv
  obtain ⟨cs', e, _, ts, _, _, hall⟩ := hv
  injection e with e
  subst e
  obtain ⟨u, _, hok⟩ := hall i _ hi
  intro g hg
  cases y with
  | none => simp [Value.ownBlock] at hg
  | some a =>
    have e : a.block = g := by simpa [Value.ownBlock] using hg
    subst e
    exact cell_in hok
end
section
open Go.RowKit
set_option maxHeartbeats 400000 in
theorem rgood_any (n d : Int) (w : World) : Calls Tryz.prog 37 #[dotV n d] w fun e w' => e = .returned (.bool (goodB n d)) ∧ Kp Nb w w' := by
  have K := hid ((Kp.refl Nb w).alloc (.cells #[.int .i64 n, .int .i64 d] 23))
  by_cases h1 : 0 ≤ n
  · by_cases h2 : n ≤ 7
    · by_cases h3 : 1 ≤ d
      · obtain ⟨b, hb⟩ : ∃ b, decide (d ≤ 1099511627776) = b := ⟨_, rfl⟩
        have HG : Hid (goodB n d = b) := hid (by unfold goodB; rw [← hb]; simp [h1, h2, h3])
        go_enter Tryz.func37, Tryz.ntmps37
        go_wp2
        go_ret
        exact ⟨by rw [HG.out, ← hb]; rfl, K.out⟩
      · have HG : Hid (goodB n d = false) := hid (by unfold goodB; simp [h3])
        go_enter Tryz.func37, Tryz.ntmps37
        go_wp2
        go_ret
        exact ⟨by rw [HG.out]; rfl, K.out⟩
    · have HG : Hid (goodB n d = false) := hid (by unfold goodB; simp [h2])
      go_enter Tryz.func37, Tryz.ntmps37
      go_wp2
      go_ret
      exact ⟨by rw [HG.out]; rfl, K.out⟩
  · have HG : Hid (goodB n d = false) := hid (by unfold goodB; simp [h1])
    go_enter Tryz.func37, Tryz.ntmps37
    go_wp2
    go_ret
    exact ⟨by rw [HG.out]; rfl, K.out⟩
theorem top_less {c : List RunQ} (h : Rt c) {k : Nat} (hk : k < c.length) {n : Int} (hn : (runAt c k).1 = n) : topF (c.take k) n < (runAt c k).2.2 := by
  have g := goodR_of.1 (h.1 _ (runAt_mem hk))
  unfold topF
  rcases List.eq_nil_or_concat (ofF (c.take k) n) with e | ⟨l, x, e⟩
  · rw [e]
    show (0 : Int) < _
    omega
  · have e' : ofF (c.take k) n = l ++ [x] := by rw [e, List.concat_eq_append]
    rw [e', List.getLast?_concat]
    show x.2.2 < _
    have hx : x ∈ ofF (c.take k) n := by rw [e']; simp
    obtain ⟨hx1, hx2⟩ := List.mem_filter.1 hx
    have hx2 := of_decide_eq_true hx2
    have hpw : (c.take (k + 1)).Pairwise Gap := h.2.sublist (List.take_sublist _ _)
    rw [take_snocR c k hk] at hpw
    have hg := (List.pairwise_append.1 hpw).2.2 x hx1 (runAt c k) (by simp)
    unfold Gap at hg
    omega
def RtR (w : World) (c : List RunQ) (n : Int) (i u : Value) (wr : World) : Prop := ∃ (k : Nat) (T : Int), k ≤ c.length ∧ i = .int .i64 k ∧ u = .int .i64 T ∧ Hid (T = if rightC c then topF (c.take k) n else 0) ∧ Hid (Kp Nb w wr)
set_option maxRecDepth 100000 in
set_option maxHeartbeats 4000000 in
theorem rtop_any (v : Value) (c : List RunQ) (n : Int) (w : World) (hs : ClSl w v c) (hl : c.length ≤ 1000) :
    Calls Tryz.prog 39 #[v, .int .i64 n] w fun e w' => e = .returned (.int .i64 (topC c n)) ∧ Kp Nb w w' := by
  obtain ⟨pv, dv, rfl⟩ := hs.shape
  obtain ⟨L, hL⟩ : ∃ L, c.length = L := ⟨_, rfl⟩
  have HLE := hid hL
  rw [hL] at hs hl ⊢
  have HS := hid hs
  have hLb := hl
  obtain ⟨R, hR⟩ : ∃ b, rightC c = b := ⟨_, rfl⟩
  have HRR := hid hR
  obtain ⟨Z, hZ⟩ : ∃ z, (if R then topF c n else 0) = z := ⟨_, rfl⟩
  have HZE := hid hZ
  have HT : Hid (topC c n = Z) := hid (by unfold topC; rw [hR, hZ])
  rw [HT.out]
  clear hZ
  have CR : Hid (∀ wx, Kp Nb w wx → Calls Tryz.prog 38 #[.slice pv L dv] wx fun e w' => e = .returned (.bool R) ∧ Kp Nb wx w') := hid (fun wx k => by rw [← hR]; exact rright_any _ c wx (hs.kept k) (by omega))
  clear hs hL hl hR
  go_enter Tryz.func39, Tryz.ntmps39
  go_wp2_with fail
  go_loopw [10, 5] (RtR w c n) (fun i _ _ => L - (intOf i).toNat)
  case atStart => exact ⟨0, 0, Nat.zero_le _, rfl, rfl, hid (by rw [HRR.out]; cases R <;> rfl), hid (Kp.refl _ _)⟩
  case round =>
    obtain ⟨k, T, hk, rfl, rfl, HTT, HK⟩ := hrel
    rw [HLE.out] at hk
    rw [HRR.out] at HTT
    by_cases hlt : k < L
    · obtain ⟨blk, off, cap, e1, hc, hm, hcell⟩ := cl_shape (HS.out.kept HK.out) (by intro h; have := HLE.out; rw [h, List.length_nil] at this; omega)
      rw [HLE.out] at e1 hc hcell
      injection e1 with e1 _ e2
      subst e1 e2
      have HR := hid (hcell k hlt)
      obtain ⟨⟨qn, qf, qt⟩, hq⟩ : ∃ q, runAt c k = q := ⟨_, rfl⟩
      have HOK := HS.out.1 k
      rw [hq] at HR HOK
      have HQ := hid hq
      obtain ⟨M, hM⟩ : ∃ M, wr.heap.size = M := ⟨_, rfl⟩
      obtain ⟨W2, hW2⟩ : ∃ W, W = (wr.alloc (.cells (runL (0, 0, 0)).toArray 38)).setCells M 0 (runL (qn, qf, qt)) := ⟨_, rfl⟩
      have hz := Blk.new wr 38 (runL (0, 0, 0))
      rw [hM] at hz
      have KW : Hid (Kp Nb wr W2) := hid (by rw [hW2]; exact Kp.setCells (fun h => absurd h (by omega)) _ 0 _ ((Kp.refl Nb wr).alloc _))
      have HMW : Hid (wr.heap.size = M) := hid hM
      have TH := hid (run_there (q := (qn, qf, qt)) hz)
      have HZ : Hid (Blk W2 M 38 (runL (qn, qf, qt))) := hid (by rw [hW2]; exact row_set hz rfl)
      have HK2 := hid (HK.out.trans KW.out (fun _ _ h => h))
      unfold maxLen at hm
      obtain ⟨fs, hfs⟩ := under_run
      clear hz hcell hq
      go_upto_region 5 with (first
        | (refine wpList_load_mid (by rfl) 38 (.tmp 12) (by rfl) blk (off + k * 3) (by rfl) (runL (qn, qf, qt)) _ HR.out hfs rfl (run_infoL (qn, qf, qt)) ?_)
        | (refine wpList_store_mid (by rfl) 38 (.tmp 7) (.tmp 13) (by rfl) M 0 (runL (qn, qf, qt)).toArray (by rfl) (by rfl) TH.out (run_infoA (qn, qf, qt)) (run_one (qn, qf, qt)) ?_))
      rw [show (wr.alloc (.cells #[.int .i64 0, .int .i64 0, .int .i64 0] 38)).setCells M 0 (runL (qn, qf, qt)) = W2 from hW2.symm]
      clear hW2 TH hM
      have c0 : W2.cell? ⟨M, 0, none⟩ = some (.int .i64 qn) := HZ.out.cell 0
      have c1 : W2.cell? ⟨M, 1, none⟩ = some (.int .i64 qf) := HZ.out.cell 1
      have c2 : W2.cell? ⟨M, 2, none⟩ = some (.int .i64 qt) := HZ.out.cell 2
      have HC : Hid (k < c.length) := hid (by rw [HLE.out]; exact hlt)
      clear HK HR KW HMW
      by_cases h1 : qn = n
      · subst h1
        by_cases h2 : T < qt
        · have h2' : qt > T := h2
          go_wp2_with fail
          refine (CR.out W2 HK2.out).mono ?_
          rintro r w3 ⟨rfl, k3⟩
          have HZ3 := hid (HZ.out.kept k3 (fun h => h))
          have HK3 := hid (HK2.out.trans k3 (fun _ _ h => h))
          have d2 : w3.cell? ⟨M, 2, none⟩ = some (.int .i64 qt) := HZ3.out.cell 2
          clear k3 c0 c1 c2
          cases R with
          | true =>
            have HV : Hid (qt = if rightC c then topF (c.take (k + 1)) qn else 0) := hid (by rw [HRR.out, if_pos rfl, topF_eq c qn k HC.out (by rw [HQ.out]), HQ.out])
            go_wp2
            go_roundw
            case rel => exact ⟨k + 1, _, by rw [HLE.out]; omega, by go_num, rfl, HV, HK3⟩
            case measure => simp [intOf]; omega
          | false =>
            have HV : Hid (T = if rightC c then topF (c.take (k + 1)) qn else 0) := hid (by rw [HRR.out, if_neg (by decide)]; rw [HTT.out, if_neg (by decide)])
            go_wp2
            go_roundw
            case rel => exact ⟨k + 1, _, by rw [HLE.out]; omega, by go_num, rfl, HV, HK3⟩
            case measure => simp [intOf]; omega
        · have h2' : ¬ qt > T := h2
          have HV : Hid (T = if rightC c then topF (c.take (k + 1)) qn else 0) := hid (by
            cases R with
            | true =>
              exfalso
              have h := top_less (rightC_rt.1 HRR.out) HC.out (n := qn) (by rw [HQ.out])
              have ht := HTT.out
              rw [if_pos rfl] at ht
              rw [HQ.out, ← ht] at h
              exact h2 h
            | false => rw [HRR.out, if_neg (by decide), HTT.out, if_neg (by decide)])
          go_wp2
          go_roundw
          case rel => exact ⟨k + 1, _, by rw [HLE.out]; omega, by go_num, rfl, HV, HK2⟩
          case measure => simp [intOf]; omega
      · have HV : Hid (T = if rightC c then topF (c.take (k + 1)) n else 0) := hid (by rw [HRR.out, topF_ne c n k HC.out (by rw [HQ.out]; exact h1)]; exact HTT.out)
        go_wp2
        go_roundw
        case rel => exact ⟨k + 1, _, by rw [HLE.out]; omega, by go_num, rfl, HV, HK2⟩
        case measure => simp [intOf]; omega
    · obtain rfl : k = L := by omega
      have hU : T = Z := by have h := HTT.out; rw [← HLE.out, List.take_length] at h; exact h.trans HZE.out
      subst hU
      go_wp2
      go_ret
      exact ⟨rfl, HK.out⟩
end

end Go.Proofs.YtogoophofgkboaaGreatDoor
