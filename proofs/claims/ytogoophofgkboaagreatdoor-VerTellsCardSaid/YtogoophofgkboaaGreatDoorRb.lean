/-
  Of the texts SipE, Mark, SipF, PenA, RefP, PenB, PenC what is used. No condition but what each says.
-/
import Derived.Test.YtogoophofgkboaaGreatDoorRa
import Derived.Test.YtogoophofgkboaaGreatDoorChecked
import Derived.ChangeKeysEq
import Derived.WalkSpells
import Derived.Lib.SlBytesConst
import Derived.Lib.BitFns
import Derived.Lib.SliceRun
import Derived.Lib.Walk
import Derived.OwnWalk
namespace Go.Proofs.YtogoophofgkboaaGreatDoor
section
open Go.RowKit
theorem PsSl.kept {w w' : World} {v : Value} {ps : List (List Int)} (h : PsSl w v ps) (k : Kp Nb w w') : PsSl w' v ps := by
  rcases h with h | ⟨blk, off, cap, hv, hc, hm, hp⟩
  · exact .inl h
  · refine .inr ⟨blk, off, cap, hv, hc, hm, fun i hi => ?_⟩
    obtain ⟨u, hu, hb⟩ := hp i hi
    exact ⟨u, k.cell hu (fun h => h), hb.kept k (fun _ h => h)⟩
def MarkR (w : World) (R : Nat) (h g : Int) (i : Value) (wr : World) : Prop :=
  ∃ k : Nat, k ≤ 8 ∧ i = .int .i64 k ∧ Hid (Blk wr R 30 (markCells 0 0 0)) ∧ Hid (Blk wr (R + 1) 30 (markCells h g k)) ∧ Hid (Kp Nb w wr)
set_option maxRecDepth 100000 in
set_option maxHeartbeats 400000 in
theorem mark_any (v : Value) (ps : List (List Int)) (w : World) (hp : PsSl w v ps) (hsz : ps.flatten.length < 4611686018427387904) :
    Calls Tryz.prog 54 #[v] w fun e w' => e = .returned (markVal (markA ps.flatten) (markB ps.flatten)) ∧ Kp Nb w w' := by
  have HP := hid hp
  have HZ := hid hsz
  clear hp hsz
  go_enter Tryz.func54, Tryz.ntmps54
  go_wp2_with fail
  refine (seed_any 1 _).mono ?_
  rintro e w1 ⟨rfl, k1⟩
  have HP1 := hid (HP.out.kept (((((Kp.refl Nb w).alloc _).alloc _)).trans k1 (fun _ _ h => h)))
  have b0 : Blk w1 w.heap.size 30 (markCells 0 0 0) := ((Blk.new w 30 (markCells 0 0 0)).alloc _).kept k1 (fun h => h)
  have b1 : Blk w1 (w.heap.size + 1) 30 (markCells 0 0 0) := by
    have h := Blk.new (w.alloc (.cells (markCells 0 0 0).toArray 30)) 30 (markCells 0 0 0)
    rw [World.size_alloc] at h
    exact h.kept k1 (fun h => h)
  have HB0 := hid b0
  have HB1 := hid b1
  have HK1 := hid ((((Kp.refl Nb w).alloc _).alloc _).trans k1 (fun _ _ h => h))
  clear k1 b0 b1
  go_wp2_with fail
  refine (hash_any _ _ v ps _ HP1.out HZ.out).mono ?_
  rintro e w2 ⟨rfl, k2⟩
  have HK2 := hid k2
  clear k2
  go_wp2_with fail
  refine (seed_any 2 _).mono ?_
  rintro e w3 ⟨rfl, k3⟩
  have HP3 := hid (HP1.out.kept (HK2.out.trans k3 (fun _ _ h => h)))
  have HK3 := hid k3
  clear k3
  go_wp2_with fail
  refine (hash_any _ _ v ps _ HP3.out HZ.out).mono ?_
  rintro e w4 ⟨rfl, k4⟩
  have HK4 := hid k4
  clear k4
  go_wp2
  have HK := hid ((HK1.out.trans HK2.out (fun _ _ h => h)).trans (HK3.out.trans HK4.out (fun _ _ h => h)) (fun _ _ h => h))
  have hk14 := HK2.out.trans (HK3.out.trans HK4.out (fun _ _ h => h)) (fun _ _ h => h)
  have HR := hid (HB0.out.kept hk14 (fun h => h))
  have HM := hid (HB1.out.kept hk14 (fun h => h))
  clear HB0 HB1 HK1 HK2 HK3 HK4 HP1 HP3 hk14
  obtain ⟨h, hh⟩ : ∃ h, h = hash (seedA 1) (seedB 1) ps.flatten := ⟨_, rfl⟩
  obtain ⟨g, hg⟩ : ∃ g, g = hash (seedA 2) (seedB 2) ps.flatten := ⟨_, rfl⟩
  obtain ⟨R, hR⟩ : ∃ R, R = w.heap.size := ⟨_, rfl⟩
  rw [← hh, ← hg, ← hR]
  rw [← hR] at HR HM
  have HH := hid hh
  have HG := hid hg
  have HRR := hid hR
  clear hh hg hR
  go_loopw [13] (MarkR w R h g) (fun i _ => 8 - (intOf i).toNat)
  case atStart => exact ⟨0, Nat.zero_le _, rfl, HR.out, HM.out, HK.out⟩
  case round =>
    clear HR HM HK
    obtain ⟨k, hk, rfl, hr, hm, hkp⟩ := hrel
    by_cases hlt : k < 8
    · obtain ⟨u, v', hu, hv⟩ := markCells_get h g k hlt
      have c1 := (hm.out.cell k).trans hu
      have c2 := (hm.out.cell (8 + k)).trans hv
      have hf := hm.out.frozen
      have hsh : (0 : Int) ≤ 56 - 8 * (k : Int) := by omega
      have HRel := hid (show MarkR w R h g (.int .i64 ((k : Int) + 1)) ((wr.setCell ⟨R + 1, k, none⟩ (.int .u8 (byteOf h k))).setCell ⟨R + 1, 8 + k, none⟩ (.int .u8 (byteOf g k))) from
        ⟨k + 1, by omega, by go_num, (hr.out.other ⟨R + 1, k, none⟩ (by simp) _).other ⟨R + 1, 8 + k, none⟩ (by simp) _, by unfold Hid; rw [← markCells_succ h g k hlt]; exact (hm.out.set k _).set (8 + k) _, (hkp.out.new (by have := HRR.out; omega) _ _).new (by have := HRR.out; omega) _ _⟩)
      clear hu hv
      go_wp2
      exact ⟨HRel.out, by simp [intOf]; omega⟩
    · obtain rfl : k = 8 := by omega
      have f0 : wr.cell? ⟨R + 1, 0, none⟩ = some (.int .u8 (byteOf h 0)) := hm.out.cell 0
      have f1 : wr.cell? ⟨R + 1, 1, none⟩ = some (.int .u8 (byteOf h 1)) := hm.out.cell 1
      have f2 : wr.cell? ⟨R + 1, 2, none⟩ = some (.int .u8 (byteOf h 2)) := hm.out.cell 2
      have f3 : wr.cell? ⟨R + 1, 3, none⟩ = some (.int .u8 (byteOf h 3)) := hm.out.cell 3
      have f4 : wr.cell? ⟨R + 1, 4, none⟩ = some (.int .u8 (byteOf h 4)) := hm.out.cell 4
      have f5 : wr.cell? ⟨R + 1, 5, none⟩ = some (.int .u8 (byteOf h 5)) := hm.out.cell 5
      have f6 : wr.cell? ⟨R + 1, 6, none⟩ = some (.int .u8 (byteOf h 6)) := hm.out.cell 6
      have f7 : wr.cell? ⟨R + 1, 7, none⟩ = some (.int .u8 (byteOf h 7)) := hm.out.cell 7
      have f8 : wr.cell? ⟨R + 1, 8, none⟩ = some (.int .u8 (byteOf g 0)) := hm.out.cell 8
      have f9 : wr.cell? ⟨R + 1, 9, none⟩ = some (.int .u8 (byteOf g 1)) := hm.out.cell 9
      have f10 : wr.cell? ⟨R + 1, 10, none⟩ = some (.int .u8 (byteOf g 2)) := hm.out.cell 10
      have f11 : wr.cell? ⟨R + 1, 11, none⟩ = some (.int .u8 (byteOf g 3)) := hm.out.cell 11
      have f12 : wr.cell? ⟨R + 1, 12, none⟩ = some (.int .u8 (byteOf g 4)) := hm.out.cell 12
      have f13 : wr.cell? ⟨R + 1, 13, none⟩ = some (.int .u8 (byteOf g 5)) := hm.out.cell 13
      have f14 : wr.cell? ⟨R + 1, 14, none⟩ = some (.int .u8 (byteOf g 6)) := hm.out.cell 14
      have f15 : wr.cell? ⟨R + 1, 15, none⟩ = some (.int .u8 (byteOf g 7)) := hm.out.cell 15
      have z0 : wr.cell? ⟨R, 0, none⟩ = some (.int .u8 0) := hr.out.cell 0
      have z1 : wr.cell? ⟨R, 1, none⟩ = some (.int .u8 0) := hr.out.cell 1
      have z2 : wr.cell? ⟨R, 2, none⟩ = some (.int .u8 0) := hr.out.cell 2
      have z3 : wr.cell? ⟨R, 3, none⟩ = some (.int .u8 0) := hr.out.cell 3
      have z4 : wr.cell? ⟨R, 4, none⟩ = some (.int .u8 0) := hr.out.cell 4
      have z5 : wr.cell? ⟨R, 5, none⟩ = some (.int .u8 0) := hr.out.cell 5
      have z6 : wr.cell? ⟨R, 6, none⟩ = some (.int .u8 0) := hr.out.cell 6
      have z7 : wr.cell? ⟨R, 7, none⟩ = some (.int .u8 0) := hr.out.cell 7
      have z8 : wr.cell? ⟨R, 8, none⟩ = some (.int .u8 0) := hr.out.cell 8
      have z9 : wr.cell? ⟨R, 9, none⟩ = some (.int .u8 0) := hr.out.cell 9
      have z10 : wr.cell? ⟨R, 10, none⟩ = some (.int .u8 0) := hr.out.cell 10
      have z11 : wr.cell? ⟨R, 11, none⟩ = some (.int .u8 0) := hr.out.cell 11
      have z12 : wr.cell? ⟨R, 12, none⟩ = some (.int .u8 0) := hr.out.cell 12
      have z13 : wr.cell? ⟨R, 13, none⟩ = some (.int .u8 0) := hr.out.cell 13
      have z14 : wr.cell? ⟨R, 14, none⟩ = some (.int .u8 0) := hr.out.cell 14
      have z15 : wr.cell? ⟨R, 15, none⟩ = some (.int .u8 0) := hr.out.cell 15
      have hf := hr.out.frozen
      have hRw : w.heap.size ≤ R := Nat.le_of_eq HRR.out.symm
      have HRw := hid hRw
      clear hRw
      go_wp2
      have hRw := HRw.out
      generalize hW : World.setCell _ ⟨R, 15, none⟩ _ = Wf
      have HF : Hid (Blk Wf R 30 (markCells h g 8)) := by rw [← hW]; exact ((((((((((((((((hr.out.set 0 _).set 1 _).set 2 _).set 3 _).set 4 _).set 5 _).set 6 _).set 7 _).set 8 _).set 9 _).set 10 _).set 11 _).set 12 _).set 13 _).set 14 _).set 15 _)
      have HKF : Hid (Kp Nb w Wf) := by rw [← hW]; exact ((((((((((((((((hkp.out.new hRw 0 _).new hRw 1 _).new hRw 2 _).new hRw 3 _).new hRw 4 _).new hRw 5 _).new hRw 6 _).new hRw 7 _).new hRw 8 _).new hRw 9 _).new hRw 10 _).new hRw 11 _).new hRw 12 _).new hRw 13 _).new hRw 14 _).new hRw 15 _)
      clear hW
      have y0 : Wf.cell? ⟨R, 0, none⟩ = some (.int .u8 (byteOf h 0)) := HF.out.cell 0
      have y1 : Wf.cell? ⟨R, 1, none⟩ = some (.int .u8 (byteOf h 1)) := HF.out.cell 1
      have y2 : Wf.cell? ⟨R, 2, none⟩ = some (.int .u8 (byteOf h 2)) := HF.out.cell 2
      have y3 : Wf.cell? ⟨R, 3, none⟩ = some (.int .u8 (byteOf h 3)) := HF.out.cell 3
      have y4 : Wf.cell? ⟨R, 4, none⟩ = some (.int .u8 (byteOf h 4)) := HF.out.cell 4
      have y5 : Wf.cell? ⟨R, 5, none⟩ = some (.int .u8 (byteOf h 5)) := HF.out.cell 5
      have y6 : Wf.cell? ⟨R, 6, none⟩ = some (.int .u8 (byteOf h 6)) := HF.out.cell 6
      have y7 : Wf.cell? ⟨R, 7, none⟩ = some (.int .u8 (byteOf h 7)) := HF.out.cell 7
      have y8 : Wf.cell? ⟨R, 8, none⟩ = some (.int .u8 (byteOf g 0)) := HF.out.cell 8
      have y9 : Wf.cell? ⟨R, 9, none⟩ = some (.int .u8 (byteOf g 1)) := HF.out.cell 9
      have y10 : Wf.cell? ⟨R, 10, none⟩ = some (.int .u8 (byteOf g 2)) := HF.out.cell 10
      have y11 : Wf.cell? ⟨R, 11, none⟩ = some (.int .u8 (byteOf g 3)) := HF.out.cell 11
      have y12 : Wf.cell? ⟨R, 12, none⟩ = some (.int .u8 (byteOf g 4)) := HF.out.cell 12
      have y13 : Wf.cell? ⟨R, 13, none⟩ = some (.int .u8 (byteOf g 5)) := HF.out.cell 13
      have y14 : Wf.cell? ⟨R, 14, none⟩ = some (.int .u8 (byteOf g 6)) := HF.out.cell 14
      have y15 : Wf.cell? ⟨R, 15, none⟩ = some (.int .u8 (byteOf g 7)) := HF.out.cell 15
      refine bodyPost_ret (v := markVal h g) (by simp [results, Tryz.results54, go_sem, y0, y1, y2, y3, y4, y5, y6, y7, y8, y9, y10, y11, y12, y13, y14, y15]; rfl) rfl ⟨?_, HKF.out⟩
      rw [HH.out, HG.out]
      rfl
end
section
open Go.RowKit
theorem plain_u8 : Tryz.prog.plainKey 5 = true := by kernel_rfl
theorem cells_u8 : Tryz.prog.cellsOf 5 = 1 := by kernel_rfl
theorem under_u8 : Tryz.prog.underlying 5 = some (.int .u8) := by kernel_rfl
theorem under_mark : Tryz.prog.underlying 30 = some (.array 16 5) := by kernel_rfl
theorem info_u8 : ∃ i, Tryz.prog.info? 5 = some i := by
  have h : (Tryz.prog.info? 5).isSome = true := by kernel_rfl
  exact Option.isSome_iff_exists.1 h
def bytesVal (zs : List Int) : Value := .agg (zs.map (Value.int .u8)).toArray
theorem eqItems_bytes (d : Nat) (zs ys : List Int) (n : Nat) (hz : zs.length = n) (hy : ys.length = n) (w : World) : ∀ is : List Nat, (∀ i ∈ is, i < n) →
    (Op.eqItems (d + 1) 5 1 (zs.map (Value.int .u8)).toArray (ys.map (Value.int .u8)).toArray is).run Tryz.prog w = .ok (is.all fun i => zs[i]?.getD 0 == ys[i]?.getD 0) w
  | [], _ => by simp [Op.eqItems]
  | i :: is, h => by
    have hi : i < n := h i (by simp)
    have h1 : (zs.map (Value.int .u8)).toArray[i * 1]? = some (.int .u8 (zs[i]?.getD 0)) := by
      rw [Nat.mul_one]; simp [List.getElem?_eq_getElem (show i < zs.length by omega)]
    have h2 : (ys.map (Value.int .u8)).toArray[i * 1]? = some (.int .u8 (ys[i]?.getD 0)) := by
      rw [Nat.mul_one]; simp [List.getElem?_eq_getElem (show i < ys.length by omega)]
    have p1 := run_part_plain w plain_u8 h1
    have p2 := run_part_plain w plain_u8 h2
    have p3 := run_equalIn_int w d 5 .u8 .u8 (zs[i]?.getD 0) (ys[i]?.getD 0) under_u8
    have ih := eqItems_bytes d zs ys n hz hy w is (fun j hj => h j (by simp [hj]))
    simp only [Op.eqItems, Sem.run_bind, p1, p2, p3, Result.andThen_ok, List.all_cons]
    cases hb : (zs[i]?.getD 0 == ys[i]?.getD 0)
    · simp
    · simpa using ih
theorem all_range (zs ys : List Int) (n : Nat) (hz : zs.length = n) (hy : ys.length = n) : ((List.range n).all fun i => zs[i]?.getD 0 == ys[i]?.getD 0) = decide (zs = ys) := by
  by_cases e : zs = ys
  · subst e; simp
  · have : ¬ ((List.range n).all fun i => zs[i]?.getD 0 == ys[i]?.getD 0) = true := by
      intro h
      rw [List.all_eq_true] at h
      refine e (List.ext_getElem (by omega) fun i h1 h2 => ?_)
      have := h i (List.mem_range.2 (by omega))
      simpa [List.getElem?_eq_getElem h1, List.getElem?_eq_getElem h2] using this
    simp only [e, decide_false]
    simpa using this
end
section
open Go.RowKit
theorem IsBytes.of {zs : List Int} (h : ∀ z ∈ zs, 0 ≤ z ∧ z < 256) : IsBytes zs := by
  intro i
  by_cases hi : i < zs.length
  · rw [List.getElem?_eq_getElem hi]; exact h _ (List.getElem_mem hi)
  · rw [List.getElem?_eq_none (by omega)]; exact ⟨by decide, by decide⟩
theorem BySl.lit (w : World) (t : TypeId) (zs : List Int) (hz : ∀ z ∈ zs, 0 ≤ z ∧ z < 256) (hm : zs.length ≤ maxLen) (S : Nat → Prop) (hn : ¬ S w.heap.size) :
    BySl S (w.alloc (.cells (zs.map (Value.int .u8)).toArray t)) (.slice (some ⟨w.heap.size, 0, none⟩) zs.length zs.length) zs := by
  refine ⟨IsBytes.of hz, .inr ⟨_, _, _, rfl, Nat.le_refl _, hm, fun i hi => ?_, fun _ => hn⟩⟩
  rw [Nat.zero_add, (Blk.new w t (zs.map (Value.int .u8))).cell i, List.getElem?_map, List.getElem?_eq_getElem hi]
  rfl
theorem PsSl.one {w : World} {v : Value} {zs : List Int} (h : BySl Nb w v zs) (t : TypeId) : PsSl (w.alloc (.cells #[v] t)) (.slice (some ⟨w.heap.size, 0, none⟩) 1 1) [zs] := by
  refine .inr ⟨_, _, _, rfl, Nat.le_refl _, by decide, fun i hi => ⟨v, ?_, ?_⟩⟩
  · have : i = 0 := by simp at hi; omega
    subst this
    exact World.cell?_alloc_new w #[v] t 0
  · have : i = 0 := by simp at hi; omega
    subst this
    exact h.kept ((Kp.refl Nb w).alloc _) (fun _ h => h)
end
section
open Go.RowKit
/-- How many bytes a number takes behind its first one, where it takes more than one. -/
def kOf (u : Int) : Nat := (Lib.bitLen u.toNat + 7) / 8
def sizeN (u : Int) : Nat := if u ≤ 247 then 1 else 1 + kOf u
theorem tab_at (i : Nat) (h : i < Lib.len8tab.size) : (Lib.len8tab[i]'h).toNat = Lib.bitLen i ∧ Lib.bitLen i ≤ 8 := by
  have hi : i < 256 := by rw [Lib.len8tab_size] at h; exact h
  have e := Lib.len8_of (i : Int) (by omega) (by omega)
  have l := Lib.bitLen_le8' (i : Int) (by omega) (by omega)
  rw [Int.toNat_natCast] at e l
  unfold Lib.len8 at e
  rw [Int.toNat_natCast, ByteArray.getElem?_lt' _ _ h, Option.getD_some] at e
  exact ⟨by omega, l⟩
theorem bit_more (x k d : Nat) (h : 2 ^ k ≤ x) (hx : x < 18446744073709551616) (hd : x / 2 ^ k = d) : Lib.bitLen x = k + Lib.bitLen d := by
  rw [← hd]; exact Lib.bitLen_shift k x h hx
set_option maxRecDepth 100000 in
set_option maxHeartbeats 4000000 in
theorem len64_any (x : Int) (w : World) (h0 : 0 ≤ x) (h1 : x ≤ 18446744073709551615) :
    Calls Tryz.prog 108 #[.int .u64 x] w fun e w' => e = .returned (.int .i64 (Lib.bitLen x.toNat)) ∧ w = w' := by
  have hts : Lib.len8tab.size = 256 := Lib.len8tab_size
  go_enter Tryz.func108, Tryz.ntmps108
  go_wp2
  all_goals (go_ret; refine ⟨congrArg Ending.returned (congrArg (Value.int IntKind.i64) ?_), rfl⟩)
  all_goals first
    | (have s := bit_more x.toNat 56 (x / 4294967296 / 65536 / 256).toNat (by omega) (by omega) (by omega)
       have l := tab_at (x / 4294967296 / 65536 / 256).toNat (by rw [hts]; omega)
       rw [l.1]; unfold wrap64; omega)
    | (have s := bit_more x.toNat 48 (x / 4294967296 / 65536).toNat (by omega) (by omega) (by omega)
       have l := tab_at (x / 4294967296 / 65536).toNat (by rw [hts]; omega)
       rw [l.1]; unfold wrap64; omega)
    | (have s := bit_more x.toNat 40 (x / 4294967296 / 256).toNat (by omega) (by omega) (by omega)
       have l := tab_at (x / 4294967296 / 256).toNat (by rw [hts]; omega)
       rw [l.1]; unfold wrap64; omega)
    | (have s := bit_more x.toNat 32 (x / 4294967296).toNat (by omega) (by omega) (by omega)
       have l := tab_at (x / 4294967296).toNat (by rw [hts]; omega)
       rw [l.1]; unfold wrap64; omega)
    | (have s := bit_more x.toNat 24 (x / 65536 / 256).toNat (by omega) (by omega) (by omega)
       have l := tab_at (x / 65536 / 256).toNat (by rw [hts]; omega)
       rw [l.1]; unfold wrap64; omega)
    | (have s := bit_more x.toNat 16 (x / 65536).toNat (by omega) (by omega) (by omega)
       have l := tab_at (x / 65536).toNat (by rw [hts]; omega)
       rw [l.1]; unfold wrap64; omega)
    | (have s := bit_more x.toNat 8 (x / 256).toNat (by omega) (by omega) (by omega)
       have l := tab_at (x / 256).toNat (by rw [hts]; omega)
       rw [l.1]; unfold wrap64; omega)
    | (have l := tab_at x.toNat (by rw [hts]; omega)
       rw [l.1]; unfold wrap64; omega)
theorem bitLen_le (x : Nat) (h : x < 18446744073709551616) : Lib.bitLen x ≤ 64 := by
  by_cases h56 : 2 ^ 56 ≤ x
  · rw [bit_more x 56 (x / 2 ^ 56) h56 h rfl]
    have := (tab_at (x / 2 ^ 56) (by rw [Lib.len8tab_size]; omega)).2
    omega
  · by_cases h48 : 2 ^ 48 ≤ x
    · rw [bit_more x 48 (x / 2 ^ 48) h48 h rfl]
      have := (tab_at (x / 2 ^ 48) (by rw [Lib.len8tab_size]; omega)).2
      omega
    · by_cases h40 : 2 ^ 40 ≤ x
      · rw [bit_more x 40 (x / 2 ^ 40) h40 h rfl]
        have := (tab_at (x / 2 ^ 40) (by rw [Lib.len8tab_size]; omega)).2
        omega
      · by_cases h32 : 2 ^ 32 ≤ x
        · rw [bit_more x 32 (x / 2 ^ 32) h32 h rfl]
          have := (tab_at (x / 2 ^ 32) (by rw [Lib.len8tab_size]; omega)).2
          omega
        · by_cases h24 : 2 ^ 24 ≤ x
          · rw [bit_more x 24 (x / 2 ^ 24) h24 h rfl]
            have := (tab_at (x / 2 ^ 24) (by rw [Lib.len8tab_size]; omega)).2
            omega
          · by_cases h16 : 2 ^ 16 ≤ x
            · rw [bit_more x 16 (x / 2 ^ 16) h16 h rfl]
              have := (tab_at (x / 2 ^ 16) (by rw [Lib.len8tab_size]; omega)).2
              omega
            · by_cases h8 : 2 ^ 8 ≤ x
              · rw [bit_more x 8 (x / 2 ^ 8) h8 h rfl]
                have := (tab_at (x / 2 ^ 8) (by rw [Lib.len8tab_size]; omega)).2
                omega
              · have := (tab_at x (by rw [Lib.len8tab_size]; omega)).2
                omega
theorem kOf_le (u : Int) (h1 : u < 18446744073709551616) : kOf u ≤ 8 := by
  unfold kOf
  have := bitLen_le u.toNat (by omega)
  omega
set_option maxHeartbeats 400000 in
theorem psize_any (u : Int) (w : World) (h0 : 0 ≤ u) (h1 : u < 18446744073709551616) :
    Calls Tryz.prog 93 #[.int .u64 u] w fun e w' => e = .returned (.int .i64 (sizeN u)) ∧ w = w' := by
  have hb := bitLen_le u.toNat (by omega)
  by_cases h : u ≤ 247
  · go_enter Tryz.func93, Tryz.ntmps93
    go_wp2
    go_ret
    exact ⟨by unfold sizeN; rw [if_pos h]; rfl, rfl⟩
  · go_enter Tryz.func93, Tryz.ntmps93
    go_wp2_with fail
    refine (len64_any u _ h0 (by omega)).mono ?_
    rintro e w1 ⟨rfl, rfl⟩
    go_wp2
    go_ret
    refine ⟨?_, rfl⟩
    unfold sizeN kOf
    rw [if_neg (show ¬ u ≤ 247 by omega)]
    refine congrArg Ending.returned (congrArg (Value.int IntKind.i64) ?_)
    omega
theorem info_byte : (Tryz.prog.info? 5).map (fun i => (i.zero, i.size, i.bytes)) = some (some (.int .u8 0), 1, 1) := by kernel_rfl
theorem BySl.ofOwn {S : Nat → Prop} {w : World} {base : Nat} {v : Value} {zs : List Int} (h : w.ownsRow base 5 1 v zs.length (zs.map (Value.int .u8))) (hz : IsBytes zs) (hS : ∀ k, base ≤ k → k < w.heap.size → ¬ S k) : BySl S w v zs := by
  refine ⟨hz, ?_⟩
  rcases h.2 with ⟨rfl, h0⟩ | ⟨g, cap, cur, rfl, hb, hg, hc, hm, hs, ht⟩
  · exact .inl ⟨⟨none, 0, rfl⟩, List.eq_nil_of_length_eq_zero h0⟩
  · refine .inr ⟨g, 0, cap, rfl, hc, hm, fun i hi => ?_, fun _ => hS g hb (Array.getElem?_eq_some_iff.1 hg).1⟩
    have := World.ownsRow.cells h (g := g) rfl i (.int .u8 (zs[i]?.getD 0)) (by rw [List.getElem?_map, List.getElem?_eq_getElem hi]; rfl)
    rw [Addr.add_lit] at this
    exact this
set_option maxRecDepth 100000 in
set_option maxHeartbeats 1000000 in
theorem clone_some (a : Addr) (c : Nat) (zs : List Int) (w : World) (hbig : zs.length ≤ 140737488355328) (hc : ∀ i, i < zs.length → w.cell? (a.add i) = some (.int .u8 (zs[i]?.getD 0))) :
    Calls Tryz.prog 41 #[.slice (some a) zs.length c] w fun e w' => ∃ v', e = .returned v' ∧ w'.ownsRow w.heap.size 5 1 v' zs.length (zs.map (Value.int .u8)) ∧ Kp Nb w w' := by
  obtain ⟨i0, hi, hz0, hz1, hz2⟩ := info_parts info_byte
  have q22 : ∀ (w : World) (a : Option Addr) (n c n' c' : Nat), (binOp .eql 26 (.slice a n c) (.slice none n' c')).run Tryz.prog w = .ok (.bool a.isNone) w := fun w a n c n' c' => Lib.run_eql_slice_nil w _ _ a n c n' c' Tryz.underlying26
  have A := hid hc
  clear hc
  go_enter Tryz.func41, Tryz.ntmps41
  go_wp2_with (at_builtin; refine wpList_append_own _ rfl _ _ 26 rfl w.heap.size 5 i0 (.int .u8 0) 1 1 Tryz.underlying26 hi hz0 hz1 hz2 rfl (by decide) _ _ _ rfl (World.ownsRow_made w #[] 0 (Nat.le_refl _) (Nat.zero_le _) rfl) a zs.length c (zs.map (Value.int .u8)) rfl ?qc1 ?qc2 ?qc3 ?qc4 ?qc5 ?qc6 ?_)
  case qc1 => simp
  case qc2 =>
    intro j u hj
    have hjn : j < zs.length := by
      have := (List.getElem?_eq_some_iff.1 hj).1
      simpa using this
    refine Lib.cell?_alloc_some _ ?_
    rw [A.out j hjn]
    rw [List.getElem?_map, List.getElem?_eq_getElem hjn] at hj
    rw [List.getElem?_eq_getElem hjn]
    exact hj
  case qc3 => intro u hu; obtain ⟨x, _, rfl⟩ := List.mem_map.1 hu; rfl
  case qc4 => unfold maxLen; omega
  case qc5 => omega
  case qc6 => simp
  intro v' w1 hown hgrow hnil
  go_wp2
  go_ret
  exact ⟨v', rfl, by simpa using hown, ((Kp.refl Nb w).alloc _).grown hgrow (fun k hk h => by simp [Value.ownBlock] at hk; omega)⟩
set_option maxHeartbeats 400000 in
theorem clone_nil (n c : Nat) (w : World) : Calls Tryz.prog 41 #[.slice none n c] w fun e w' => e = .returned (.slice none 0 0) ∧ w = w' := by
  have q22 : ∀ (w : World) (a : Option Addr) (n c n' c' : Nat), (binOp .eql 26 (.slice a n c) (.slice none n' c')).run Tryz.prog w = .ok (.bool a.isNone) w := fun w a n c n' c' => Lib.run_eql_slice_nil w _ _ a n c n' c' Tryz.underlying26
  go_enter Tryz.func41, Tryz.ntmps41
  go_wp2
  go_ret
  exact ⟨rfl, rfl⟩
theorem clone_any {S : Nat → Prop} (v : Value) (zs : List Int) (w : World) (h : BySl S w v zs) (hbig : zs.length ≤ 140737488355328) :
    Calls Tryz.prog 41 #[v] w fun e w' => ∃ v', e = .returned v' ∧ w'.ownsRow w.heap.size 5 1 v' zs.length (zs.map (Value.int .u8)) ∧ Kp Nb w w' := by
  obtain ⟨hz, ⟨⟨a, c, rfl⟩, rfl⟩ | ⟨blk, off, cap, rfl, hc, hm, hb, -⟩⟩ := h
  · cases a with
    | none =>
      refine (clone_nil 0 c w).mono ?_
      rintro e w' ⟨rfl, rfl⟩
      exact ⟨_, rfl, World.ownsRow_nil _ _ _ _, Kp.refl Nb w⟩
    | some a => exact clone_some a c [] w hbig (fun i hi => by simp at hi)
  · refine clone_some ⟨blk, off, none⟩ cap zs w hbig (fun i hi => ?_)
    have ea : Addr.add ⟨blk, off, none⟩ i = ⟨blk, off + i, none⟩ := by unfold Addr.add; split <;> simp_all
    rw [ea]
    exact hb i hi
/-- An eye at block B: the bytes that are left, its error. -/
def EyeAt (w : World) (B : Nat) (zs : List Int) (e : Int) : Prop := ∃ v, Blk w B 92 [v, .int .i64 e] ∧ BySl (Jb B) w v zs
theorem EyeAt.kept {S : Nat → Prop} {w w' : World} {B : Nat} {zs : List Int} {e : Int} (h : EyeAt w B zs e) (k : Kp S w w') (hS : ∀ i, i < w.heap.size → ¬ S i) : EyeAt w' B zs e := by
  obtain ⟨v, hb, hv⟩ := h
  have k' : Kp Nb w w' := k.mono (fun i hi h => hS i hi h)
  exact ⟨v, hb.kept k' (fun h => h), hv.kept k' (fun _ h => absurd h (fun h => h))⟩
theorem EyeAt.lt {w : World} {B : Nat} {zs : List Int} {e : Int} (h : EyeAt w B zs e) : B < w.heap.size := by obtain ⟨v, hb, _⟩ := h; exact hb.lt
def failS (zs : List Int) (e f : Int) : List Int := if e = 0 ∧ f ≠ 0 then [] else zs
def failE (e f : Int) : Int := if e = 0 ∧ f ≠ 0 then f else e
set_option maxHeartbeats 400000 in
theorem err_any (B : Nat) (zs : List Int) (e : Int) (w : World) (h : EyeAt w B zs e) :
    Calls Tryz.prog 31 #[.pointer (some ⟨B, 0, none⟩)] w fun r w' => r = .returned (.int .i64 e) ∧ w = w' := by
  obtain ⟨v, hb, -⟩ := h
  have c1 := hb.cell 1
  have c0 := hb.cell 0
  simp only [List.getElem?_cons_zero, List.getElem?_cons_succ] at c0 c1
  clear hb
  go_enter Tryz.func31, Tryz.ntmps31
  go_wp2
  go_ret
  exact ⟨rfl, rfl⟩
set_option maxHeartbeats 400000 in
theorem left_any (B : Nat) (zs : List Int) (e : Int) (w : World) (h : EyeAt w B zs e) :
    Calls Tryz.prog 32 #[.pointer (some ⟨B, 0, none⟩)] w fun r w' => r = .returned (.int .i64 zs.length) ∧ w = w' := by
  obtain ⟨v, hb, hv⟩ := h
  obtain ⟨a, c, rfl⟩ : ∃ a c, v = .slice a zs.length c := by
    rcases hv.2 with ⟨⟨a, c, rfl⟩, rfl⟩ | ⟨blk, off, cap, rfl, -⟩
    · exact ⟨a, c, rfl⟩
    · exact ⟨_, _, rfl⟩
  have c0 := hb.cell 0
  simp only [List.getElem?_cons_zero] at c0
  clear hb hv
  go_enter Tryz.func32, Tryz.ntmps32
  go_wp2
  go_ret
  exact ⟨rfl, rfl⟩
set_option maxHeartbeats 400000 in
theorem fail_any (B : Nat) (zs : List Int) (e f : Int) (w : World) (h : EyeAt w B zs e) :
    Calls Tryz.prog 66 #[.pointer (some ⟨B, 0, none⟩), .int .i64 f] w fun r w' => r = .returned (.tuple #[]) ∧ EyeAt w' B (failS zs e f) (failE e f) ∧ Kp (Jb B) w w' := by
  obtain ⟨v, hb, hv⟩ := h
  have c1 := hb.cell 1
  have c0 := hb.cell 0
  simp only [List.getElem?_cons_zero, List.getElem?_cons_succ] at c0 c1
  have f0 := hb.frozen 0
  have f1 := hb.frozen 1
  have HB := hid hb
  have HV := hid hv
  clear hb hv
  by_cases h0 : e = 0
  · by_cases h1 : f = 0
    · have HN := hid (show ¬ (e = 0 ∧ f ≠ 0) by omega)
      have g1 : (f != 0) = false := by rw [bne_eq_false_iff_eq]; exact h1
      subst h0
      go_enter Tryz.func66, Tryz.ntmps66
      go_wp2
      go_end0
      exact ⟨rfl, by simp only [failS, failE, ne_eq, not_true_eq_false, and_false, if_false]; exact ⟨v, HB.out, HV.out⟩, Kp.refl _ _⟩
    · have HN := hid (show (e = 0 ∧ f ≠ 0) from ⟨h0, h1⟩)
      have g1 : (f != 0) = true := by rw [bne_iff_ne]; exact h1
      subst h0
      go_enter Tryz.func66, Tryz.ntmps66
      go_wp2
      go_end0
      refine ⟨rfl, ?_, ((Kp.refl (Jb B) w).set 1 _).set 0 _⟩
      have hf := HN.out.2
      simp only [failS, failE, ne_eq, hf, not_false_eq_true, and_true, if_true]
      exact ⟨.slice none 0 0, (HB.out.set 1 (.int .i64 f)).set 0 (.slice none 0 0), fun i => by simp, .inl ⟨⟨none, 0, rfl⟩, rfl⟩⟩
  · have HN := hid (show ¬ (e = 0 ∧ f ≠ 0) by omega)
    have g1 : (e == 0) = false := by rw [beq_eq_false_iff_ne]; exact h0
    go_enter Tryz.func66, Tryz.ntmps66
    go_wp2
    go_end0
    exact ⟨rfl, by unfold failS failE; rw [if_neg HN.out, if_neg HN.out]; exact ⟨v, HB.out, HV.out⟩, Kp.refl _ _⟩
def endE (zs : List Int) (e : Int) : Int := if zs = [] then e else failE e 13
def endS (zs : List Int) (e : Int) : List Int := if zs = [] then zs else failS zs e 13
set_option maxHeartbeats 400000 in
theorem end_any (B : Nat) (zs : List Int) (e : Int) (w : World) (h : EyeAt w B zs e) :
    Calls Tryz.prog 71 #[.pointer (some ⟨B, 0, none⟩)] w fun r w' => r = .returned (.int .i64 (endE zs e)) ∧ EyeAt w' B (endS zs e) (endE zs e) ∧ Kp (Jb B) w w' := by
  have H := hid h
  clear h
  go_enter Tryz.func71, Tryz.ntmps71
  go_wp2_with fail
  refine (left_any B zs e _ H.out).mono ?_
  rintro r w1 ⟨rfl, rfl⟩
  by_cases hz : zs = []
  · subst hz
    go_wp2_with fail
    refine (err_any B [] e _ H.out).mono ?_
    rintro r w2 ⟨rfl, rfl⟩
    go_wp2
    go_ret
    exact ⟨rfl, H.out, Kp.refl _ _⟩
  · have hl : (0 : Int) < (zs.length : Int) := by have := List.length_pos_iff.2 hz; omega
    have HZ := hid hz
    clear hz
    go_wp2_with fail
    refine (fail_any B zs e 13 _ H.out).mono ?_
    rintro r w2 ⟨rfl, h2, k2⟩
    have H2 := hid h2
    have K2 := hid k2
    clear h2 k2
    go_wp2_with fail
    refine (err_any B _ _ _ H2.out).mono ?_
    rintro r w3 ⟨rfl, rfl⟩
    go_wp2
    go_ret
    exact ⟨by unfold endE; rw [if_neg HZ.out]; rfl, by unfold endE endS; rw [if_neg HZ.out, if_neg HZ.out]; exact H2.out, K2.out⟩
end
section
open Go.RowKit
def num : List Int → Int
  | [] => 0
  | x :: r => x + 256 * num r
theorem num_cons (x : Int) (r : List Int) : num (x :: r) = x + 256 * num r := rfl
theorem IsBytes.tail {x : Int} {r : List Int} (h : IsBytes (x :: r)) : IsBytes r := fun i => h (i + 1)
theorem IsBytes.head {x : Int} {r : List Int} (h : IsBytes (x :: r)) : 0 ≤ x ∧ x < 256 := h 0
theorem num_append (xs ys : List Int) : num (xs ++ ys) = num xs + 256 ^ xs.length * num ys := by
  induction xs with
  | nil => simp [num]
  | cons x r ih => rw [List.cons_append, num_cons, num_cons, ih, List.length_cons, Int.pow_succ, Int.mul_comm (256 ^ r.length) 256, Int.mul_assoc, Int.mul_add]; omega
theorem num_nonneg : ∀ xs : List Int, IsBytes xs → 0 ≤ num xs
  | [], _ => Int.le_refl 0
  | x :: r, h => by have := num_nonneg r h.tail; have := h.head; rw [num_cons]; omega
theorem num_lt : ∀ xs : List Int, IsBytes xs → num xs < 256 ^ xs.length
  | [], _ => by decide
  | x :: r, h => by have := num_lt r h.tail; have := h.head; rw [num_cons, List.length_cons, Int.pow_succ]; omega
theorem num_zeros (k : Nat) : num (List.replicate k 0) = 0 := by
  induction k with
  | zero => rfl
  | succ k ih => rw [List.replicate_succ, num_cons, ih]; rfl
theorem IsBytes.take {zs : List Int} (h : IsBytes zs) (k : Nat) : IsBytes (zs.take k) := by
  intro i
  rw [List.getElem?_take]
  split
  · exact h i
  · simp
theorem or_add (a x : Nat) (k : Nat) (ha : a < 2 ^ (8 * k)) (hx : x < 256) (hk : k < 8) :
    bits .or .u64 (a : Int) (IntKind.u64.wrap ((x : Int) * 2 ^ (8 * k))) = ((a + x * 2 ^ (8 * k) : Nat) : Int) := by
  have hp : 2 ^ (8 * k) ≤ 2 ^ 56 := Nat.pow_le_pow_right (by decide) (by omega)
  have hxp : x * 2 ^ (8 * k) < 2 ^ 64 := by
    calc x * 2 ^ (8 * k) ≤ 255 * 2 ^ 56 := Nat.mul_le_mul (by omega) hp
      _ < 2 ^ 64 := by decide
  have e : ((x : Int) * 2 ^ (8 * k)) = ((x * 2 ^ (8 * k) : Nat) : Int) := by push_cast; rfl
  have e2 : IntKind.u64.wrap ((x * 2 ^ (8 * k) : Nat) : Int) = ((x * 2 ^ (8 * k) : Nat) : Int) := by
    rw [IntKind.wrap_u64]; omega
  rw [e, e2, bits_or_u64_nat a _ (Nat.lt_of_lt_of_le ha (Nat.le_trans hp (by decide))) hxp]
  congr 1
  have := Nat.shiftLeft_add_eq_or_of_lt ha x
  rw [Nat.shiftLeft_eq] at this
  rw [Nat.or_comm, ← this, Nat.add_comm]
theorem pow_nat (n : Nat) : (256 : Int) ^ n = ((2 ^ (8 * n) : Nat) : Int) := by
  have e : (2 : Nat) ^ (8 * n) = 256 ^ n := by rw [Nat.pow_mul]
  rw [e, Int.natCast_pow]; rfl
theorem or_num (xs : List Int) (x : Int) (k : Nat) (h : IsBytes xs) (hl : xs.length = k) (h0 : 0 ≤ x) (h1 : x < 256) (hk : k < 8) :
    bits .or .u64 (num xs) (IntKind.u64.wrap (x * 2 ^ (8 * k))) = num xs + 256 ^ k * x := by
  have hn := num_nonneg xs h
  have hb := num_lt xs h
  rw [hl, pow_nat] at hb
  obtain ⟨a, ha⟩ := Int.eq_ofNat_of_zero_le hn
  obtain ⟨y, rfl⟩ := Int.eq_ofNat_of_zero_le h0
  rw [ha] at hb ⊢
  rw [pow_nat]
  refine (or_add a y k (by omega) (by omega) hk).trans ?_
  push_cast
  rw [Int.mul_comm]
theorem loadTo_num (zs : List Int) (h : IsBytes zs) : ∀ k, k ≤ 8 → k ≤ zs.length → loadTo zs k = num (zs.take k)
  | 0, _, _ => rfl
  | k + 1, hk, hl => by
    rw [take_snoc zs k (by omega), num_append, List.length_take, Nat.min_eq_left (by omega)]
    show bits .or .u64 (loadTo zs k) _ = _
    rw [loadTo_num zs h k (by omega) (by omega), or_num (zs.take k) _ k (h.take k) (by rw [List.length_take]; omega) (h k).1 (h k).2 (by omega)]
    simp [num]
/-- The bytes that the document's sum goes through: zeros up to seven behind whole words, and how many bytes there are. -/
def padded (zs : List Int) : List Int := zs ++ (List.replicate (7 - zs.length % 8) 0 ++ [((zs.length : Int) % 256)])
theorem padded_length (zs : List Int) : (padded zs).length = 8 * (zs.length / 8 + 1) := by
  unfold padded
  simp only [List.length_append, List.length_replicate, List.length_cons, List.length_nil]
  omega
theorem IsBytes.append {xs ys : List Int} (h : IsBytes xs) (g : IsBytes ys) : IsBytes (xs ++ ys) := by
  intro i
  rw [List.getElem?_append]
  split
  · exact h i
  · exact g _
theorem IsBytes.zeros (k : Nat) : IsBytes (List.replicate k 0) := by
  intro i
  rw [List.getElem?_replicate]
  split <;> simp
theorem IsBytes.one {x : Int} (h0 : 0 ≤ x) (h1 : x < 256) : IsBytes [x] := by
  intro i
  match i with
  | 0 => exact ⟨h0, h1⟩
  | i + 1 => simp
theorem padded_bytes {zs : List Int} (h : IsBytes zs) : IsBytes (padded zs) := h.append ((IsBytes.zeros _).append (IsBytes.one (by omega) (by omega)))
theorem num_step (ys : List Int) (hb : IsBytes ys) (hl : ys.length = 8) (i : Nat) (hi : i < 8) :
    IntKind.u64.wrap (IntKind.u64.wrap (num (ys.drop (i + 1)) * 256) + ys[i]?.getD 0) = num (ys.drop i) := by
  have hd : ys.drop i = ys[i]?.getD 0 :: ys.drop (i + 1) := by
    rw [List.drop_eq_getElem_cons (by omega), List.getElem?_eq_getElem (by omega)]; rfl
  have hn := num_nonneg _ (hb.drop (i + 1))
  have hlt := num_lt _ (hb.drop (i + 1))
  have hx := hb i
  rw [List.length_drop, hl] at hlt
  have hp : (256 : Int) ^ (8 - (i + 1)) ≤ 256 ^ 7 := by
    rw [pow_nat, pow_nat]
    have := Nat.pow_le_pow_right (n := 2) (by decide) (show 8 * (8 - (i + 1)) ≤ 8 * 7 by omega)
    omega
  have hq : (256 : Int) ^ 7 = 72057594037927936 := by decide
  rw [hd, num_cons, IntKind.wrap_u64, IntKind.wrap_u64]
  omega
def V4.word (v : V4) (x : Int) : V4 :=
  let u := rnds 2 { v with d := bits .xor .u64 v.d x }
  { u with a := bits .xor .u64 u.a x }
theorem word_v (s : Sp) (x : Int) : (s.word x).v = s.v.word x := rfl
/-- The four numbers when j words are over. -/
def atWord (a b : Int) (zs : List Int) (j : Nat) : V4 :=
  if 8 * j ≤ zs.length then ((Sp.init a b).write (zs.take (8 * j))).v else (((Sp.init a b).write zs).word ((Sp.init a b).write zs).tail).v
theorem tail_num (a b : Int) (zs : List Int) (h : IsBytes zs) (q : Nat) (hq : q = 8 * (zs.length / 8)) :
    ((Sp.init a b).write zs).tail = num ((padded zs).drop q) := by
  have hr : zs.length - q < 8 := by omega
  have hw : (Sp.init a b).write zs = ((Sp.init a b).write (zs.take q)).write (zs.drop q) := by rw [← Sp.write_append, List.take_append_drop]
  have hn : ((Sp.init a b).write (zs.take q)).n = q := by rw [Sp.write_n, List.length_take]; show 0 + _ = q; omega
  have ho : ((Sp.init a b).write (zs.take q)).rest = 0 := Sp.write_ok _ _ (Sp.init_ok a b) (by rw [hn]; omega)
  have hdl : (zs.drop q).length = zs.length - q := List.length_drop
  obtain ⟨ys, hys⟩ : ∃ ys, ys = zs.drop q ++ List.replicate 8 0 := ⟨_, rfl⟩
  have hyl : 8 ≤ ys.length := by rw [hys]; simp
  have hyt : ys.take (zs.length - q) = zs.drop q := by rw [hys, ← hdl, List.take_left]
  have hyb : IsBytes ys := by rw [hys]; exact (h.drop q).append (IsBytes.zeros 8)
  have hf := Sp.write_few ((Sp.init a b).write (zs.take q)) ys hyl (by rw [hn]; omega) ho (zs.length - q) hr
  rw [hyt] at hf
  rw [hw, hf]
  unfold Sp.tail
  have e1 : (((((Sp.init a b).write (zs.take q)).left (loadTo ys (zs.length - q))).count (zs.length - q)).rest) = num (zs.drop q) := by
    show loadTo ys (zs.length - q) = _
    rw [loadTo_num ys hyb _ (by omega) (by omega), hyt]
  have e2 : (((((Sp.init a b).write (zs.take q)).left (loadTo ys (zs.length - q))).count (zs.length - q)).n) = zs.length := by
    show ((Sp.init a b).write (zs.take q)).n + (zs.length - q) = _
    rw [hn]; omega
  rw [e1, e2]
  have e3 : IntKind.u64.wrap ((zs.length : Int) * 72057594037927936) = IntKind.u64.wrap (((zs.length : Int) % 256) * 2 ^ (8 * 7)) := by
    rw [IntKind.wrap_u64, IntKind.wrap_u64]
    have : (2 : Int) ^ (8 * 7) = 72057594037927936 := by decide
    rw [this]
    omega
  have hpd : (padded zs).drop q = (zs.drop q ++ List.replicate (7 - zs.length % 8) 0) ++ [((zs.length : Int) % 256)] := by
    unfold padded
    rw [List.drop_append_of_le_length (by omega), List.append_assoc]
  have e4 : num (zs.drop q) = num (zs.drop q ++ List.replicate (7 - zs.length % 8) 0) := by rw [num_append, num_zeros]; omega
  rw [e3, hpd, num_append, e4, or_num _ _ 7 ((h.drop q).append (IsBytes.zeros _)) (by simp only [List.length_append, List.length_replicate, hdl]; omega) (by omega) (by omega) (by decide)]
  have e5 : (zs.drop q ++ List.replicate (7 - zs.length % 8) (0 : Int)).length = 7 := by simp only [List.length_append, List.length_replicate, hdl]; omega
  rw [e5]
  simp [num]
theorem word_step (a b : Int) (zs : List Int) (h : IsBytes zs) (j : Nat) (hj : j < zs.length / 8 + 1) :
    (atWord a b zs j).word (num (((padded zs).drop (8 * j)).take 8)) = atWord a b zs (j + 1) := by
  unfold atWord
  rw [if_pos (by omega)]
  by_cases hlt : 8 * (j + 1) ≤ zs.length
  · rw [if_pos hlt]
    have e : ((padded zs).drop (8 * j)).take 8 = (zs.drop (8 * j)).take 8 := by
      unfold padded
      rw [List.drop_append_of_le_length (by omega), List.take_append_of_le_length (by rw [List.length_drop]; omega)]
    rw [e, ← loadTo_num (zs.drop (8 * j)) (h.drop _) 8 (by omega) (by rw [List.length_drop]; omega), ← word_v]
    have := Sp.step_eight (Sp.init a b) zs (8 * j) zs.length rfl (Sp.init_ok a b) (by omega) (by show (0 + 8 * j) % 8 = 0; omega)
    have h2 := congrArg Sp.v this
    exact h2
  · rw [if_neg hlt]
    have hq : 8 * j = 8 * (zs.length / 8) := by omega
    have hd := tail_num a b zs h (8 * j) hq
    have e : ((padded zs).drop (8 * j)).take 8 = (padded zs).drop (8 * j) := by
      apply List.take_of_length_le
      rw [List.length_drop, padded_length]; omega
    rw [e, ← hd, ← word_v]
    by_cases hx : 8 * j = zs.length
    · have e1 : zs.take (8 * j) = zs := by rw [hx]; exact List.take_length
      rw [e1]
    · have hw : (Sp.init a b).write zs = ((Sp.init a b).write (zs.take (8 * j))).write (zs.drop (8 * j)) := by rw [← Sp.write_append, List.take_append_drop]
      have hn : ((Sp.init a b).write (zs.take (8 * j))).n = 8 * j := by rw [Sp.write_n, List.length_take]; show 0 + _ = 8 * j; omega
      have ho : ((Sp.init a b).write (zs.take (8 * j))).rest = 0 := Sp.write_ok _ _ (Sp.init_ok a b) (by rw [hn]; omega)
      have hdl : (zs.drop (8 * j)).length = zs.length - 8 * j := List.length_drop
      have hf := Sp.write_few ((Sp.init a b).write (zs.take (8 * j))) (zs.drop (8 * j) ++ List.replicate 8 0) (by simp) (by rw [hn]; omega) ho (zs.length - 8 * j) (by omega)
      rw [← hdl, List.take_left] at hf
      have hv : ((Sp.init a b).write zs).v = ((Sp.init a b).write (zs.take (8 * j))).v := by rw [hw, hf]; rfl
      rw [word_v, word_v, hv]
theorem word_last (a b : Int) (zs : List Int) : atWord a b zs (zs.length / 8 + 1) = (((Sp.init a b).write zs).word ((Sp.init a b).write zs).tail).v := by
  unfold atWord; rw [if_neg (by omega)]
theorem word_first (a b : Int) (zs : List Int) : atWord a b zs 0 = (Sp.init a b).v := by
  unfold atWord; rw [if_pos (by omega)]; rfl
def V4.last (v : V4) : V4 := rnds 4 { v with c := bits .xor .u64 v.c 255 }
def V4.out (v : V4) : Int := bits .xor .u64 (bits .xor .u64 (bits .xor .u64 v.a v.b) v.c) v.d
theorem hash_ref (a b : Int) (zs : List Int) : hash a b zs = (atWord a b zs (zs.length / 8 + 1)).last.out := by
  rw [word_last]; rfl
end
section
open Go.RowKit
def beTo (zs : List Int) : Nat → Int
  | 0 => 0
  | k + 1 => bits .or .u64 (IntKind.u64.wrap (beTo zs k * 256)) (zs[k]?.getD 0)
theorem bits_or_range (a b : Int) : 0 ≤ bits .or .u64 a b ∧ bits .or .u64 a b < 18446744073709551616 := by
  unfold bits
  show 0 ≤ IntKind.u64.wrap _ ∧ IntKind.u64.wrap _ < _
  rw [IntKind.wrap_u64]
  omega
theorem beTo_range (zs : List Int) : ∀ k, 0 ≤ beTo zs k ∧ beTo zs k < 18446744073709551616
  | 0 => ⟨Int.le_refl _, by show (0 : Int) < _; decide⟩
  | k + 1 => bits_or_range _ _
/-- The first number in bytes, how many bytes it takes, an error. -/
def firstOf (zs : List Int) : Int × Nat × Int :=
  if zs.length = 0 then (0, 0, 10)
  else if zs[0]?.getD 0 ≤ 247 then (zs[0]?.getD 0, 1, 0)
  else if zs.length < 1 + (zs[0]?.getD 0 - 247).toNat then (0, 0, 10)
  else if sizeN (beTo (zs.drop 1) (zs[0]?.getD 0 - 247).toNat) = 1 + (zs[0]?.getD 0 - 247).toNat then (beTo (zs.drop 1) (zs[0]?.getD 0 - 247).toNat, 1 + (zs[0]?.getD 0 - 247).toNat, 0)
  else (0, 0, 11)
def FirstR (zs : List Int) (n : Nat) (u i : Value) : Prop := ∃ j : Nat, j ≤ n ∧ i = .int .i64 j ∧ u = .int .u64 (beTo zs j)
def firstVal (zs : List Int) : Value := .tuple #[.int .u64 (firstOf zs).1, .int .i64 (firstOf zs).2.1, .int .i64 (firstOf zs).2.2]
set_option maxHeartbeats 400000 in
theorem firstb_nil (a : Option Addr) (cap : Nat) (w : World) :
    Calls Tryz.prog 95 #[.slice a 0 cap] w fun e w' => e = .returned (firstVal []) ∧ w = w' := by
  go_enter Tryz.func95, Tryz.ntmps95
  go_wp2
  go_ret3
  exact ⟨rfl, rfl⟩
set_option maxRecDepth 100000 in
set_option maxHeartbeats 1000000 in
theorem firstb_some (blk off cap : Nat) (zs : List Int) (w : World) (h0 : 0 < zs.length) (hz : IsBytes zs) (hc : zs.length ≤ cap) (hb : ByAt w blk off zs) :
    Calls Tryz.prog 95 #[.slice (some ⟨blk, off, none⟩) zs.length cap] w fun e w' => e = .returned (firstVal zs) ∧ w = w' := by
  have c0 := hb 0 h0
  rw [Nat.add_zero] at c0
  have hx := hz 0
  have HB := hid hb
  have HZ := hid hz
  obtain ⟨F, hF⟩ : ∃ F, F = firstVal zs := ⟨_, rfl⟩
  rw [← hF]
  have HV := hid hF
  clear hF
  unfold firstVal firstOf at HV
  clear hb hz
  obtain ⟨z, hzz⟩ : ∃ z, z = zs[0]?.getD 0 := ⟨_, rfl⟩
  rw [← hzz] at c0 hx HV
  clear hzz
  by_cases hle : z ≤ 247
  · have HV2 := HV.out
    rw [if_neg (show ¬ zs.length = 0 by omega), if_pos hle] at HV2
    have HV := hid HV2
    clear HV2
    have g0 : ¬ (zs.length : Int) = 0 := by omega
    go_enter Tryz.func95, Tryz.ntmps95
    go_wp2
    go_ret3
    exact ⟨by rw [HV.out]; rfl, rfl⟩
  · obtain ⟨k, hk⟩ : ∃ k : Nat, z = 247 + (k : Int) := ⟨(z - 247).toNat, by omega⟩
    subst hk
    have ek : (247 + (k : Int) - 247).toNat = k := by omega
    rw [ek] at HV
    have g0 : ¬ (zs.length : Int) = 0 := by omega
    by_cases hlt : zs.length < 1 + k
    · have HV2 := HV.out
      rw [if_neg (show ¬ zs.length = 0 by omega), if_neg hle, if_pos hlt] at HV2
      have HV := hid HV2
      clear HV2
      go_enter Tryz.func95, Tryz.ntmps95
      go_wp2
      go_ret3
      exact ⟨by rw [HV.out]; rfl, rfl⟩
    · have HV2 := HV.out
      rw [if_neg (show ¬ zs.length = 0 by omega), if_neg hle, if_neg hlt] at HV2
      have HV := hid HV2
      clear HV2
      have g1 : ¬ cap = 1 := by omega
      have g2 : (1 : Int) + (k : Int) ≤ (cap : Int) := by omega
      have g3 : (1 : Int) ≤ 1 + (k : Int) := by omega
      obtain ⟨ys, hys⟩ : ∃ ys, ys = zs.drop 1 := ⟨_, rfl⟩
      rw [← hys] at HV
      have HYS := hid hys
      clear hys
      go_enter Tryz.func95, Tryz.ntmps95
      go_wp2
      go_loop [6, 34] (FirstR ys k) (fun _ i => k - (intOf i).toNat)
      case atStart => exact ⟨0, Nat.zero_le _, rfl, rfl⟩
      case round =>
        obtain ⟨j, hj, rfl, rfl⟩ := hrel
        by_cases hjk : j < k
        · have cj := HB.out (1 + j) (by omega)
          have hxj := HZ.out (1 + j)
          rw [← Nat.add_assoc] at cj
          have hd : ys[j]?.getD 0 = zs[1 + j]?.getD 0 := by rw [HYS.out, List.getElem?_drop]
          obtain ⟨X, hX⟩ : ∃ X, X = zs[1 + j]?.getD 0 := ⟨_, rfl⟩
          rw [← hX] at cj hxj hd
          clear hX
          have hbr := beTo_range ys j
          have HR := hid (show FirstR ys k (.int .u64 (bits .or .u64 (IntKind.u64.wrap (beTo ys j * 256)) X)) (.int .i64 ((j : Int) + 1)) from ⟨j + 1, by omega, by go_num, by rw [← hd]; rfl⟩)
          clear hd
          go_wp2
          exact ⟨HR.out, by simp [intOf]; omega⟩
        · obtain rfl : j = k := by omega
          have hbr := beTo_range ys j
          go_wp2_with fail
          refine (psize_any _ _ hbr.1 hbr.2).mono ?_
          rintro e w1 ⟨rfl, rfl⟩
          by_cases hs : sizeN (beTo ys j) = 1 + j
          · have HV2 := HV.out
            rw [if_pos hs] at HV2
            have HV := hid HV2
            clear HV2
            have g5 : (((sizeN (beTo ys j) : Nat) : Int) != 1 + (247 + (j : Int) - 247)) = false := by rw [bne_eq_false_iff_eq]; omega
            go_wp2
            go_ret3
            have e1 : (1 : Int) + (247 + (j : Int) - 247) = ((1 + j : Nat) : Int) := by omega
            exact ⟨by rw [HV.out, ← e1]; rfl, rfl⟩
          · have HV2 := HV.out
            rw [if_neg hs] at HV2
            have HV := hid HV2
            clear HV2
            have g5 : (((sizeN (beTo ys j) : Nat) : Int) != 1 + (247 + (j : Int) - 247)) = true := by rw [bne_iff_ne]; omega
            go_wp2
            go_ret3
            exact ⟨by rw [HV.out]; rfl, rfl⟩
theorem firstb_any {S : Nat → Prop} (v : Value) (zs : List Int) (w : World) (h : BySl S w v zs) :
    Calls Tryz.prog 95 #[v] w fun e w' => e = .returned (firstVal zs) ∧ w = w' := by
  obtain ⟨hz, ⟨⟨a, c, rfl⟩, rfl⟩ | ⟨blk, off, cap, rfl, hc, hm, hb, -⟩⟩ := h
  · exact firstb_nil a c w
  · by_cases h0 : zs.length = 0
    · obtain rfl := List.eq_nil_of_length_eq_zero h0
      exact firstb_nil _ _ w
    · exact firstb_some blk off cap zs w (by omega) hz hc hb
theorem firstOf_ok (zs : List Int) (h : (firstOf zs).2.2 = 0) : 1 ≤ (firstOf zs).2.1 ∧ (firstOf zs).2.1 ≤ zs.length := by
  unfold firstOf at h ⊢
  split at h
  · simp at h
  · rename_i h0
    rw [if_neg h0]
    split at h
    · rename_i h1
      rw [if_pos h1]
      exact ⟨Nat.le_refl _, by show 1 ≤ zs.length; omega⟩
    · rename_i h1
      rw [if_neg h1]
      split at h
      · simp at h
      · rename_i h2
        rw [if_neg h2]
        split at h
        · rename_i h3
          rw [if_pos h3]
          refine ⟨by show 1 ≤ 1 + _; omega, by show 1 + _ ≤ zs.length; omega⟩
        · simp at h
theorem elem_bytes : Tryz.prog.underlying 26 = some (.slice (Tryz.prog.elem 26)) := by
  rw [show Tryz.prog.elem 26 = 5 from by simp [Program.elem, Tryz.underlying26]]; exact Tryz.underlying26
theorem elem_is : Tryz.prog.elem 26 = 5 := by simp [Program.elem, Tryz.underlying26]
theorem size_byte (w : World) : (sizeOf 5).run Tryz.prog w = .ok 1 w := by
  obtain ⟨i0, hi, _, hz1, _⟩ := info_parts info_byte
  simp [Go.sizeOf, typeInfo, hi, hz1]
/-- v[n:] of bytes. -/
theorem BySl.cutL {S : Nat → Prop} {w : World} {v : Value} {zs : List Int} (h : BySl S w v zs) (n : Nat) (hn : n ≤ zs.length) :
    ∃ x c, (∀ W, (Instr.slice 26 v (some (.int .i64 (n : Int))) none none).run Tryz.prog W = .ok (.slice x (zs.length - n) c) W) ∧ BySl S w (.slice x (zs.length - n) c) (zs.drop n) := by
  obtain ⟨hz, ⟨⟨a, c, rfl⟩, rfl⟩ | ⟨blk, off, cap, rfl, hc, hm, hb, hne⟩⟩ := h
  · have h0 : n = 0 := by simpa using hn
    subst h0
    refine ⟨if c = 0 then a else a.map (·.add (0 * 1)), c - 0, fun W => ?_, fun i => by simp, .inl ⟨⟨_, _, rfl⟩, rfl⟩⟩
    rw [run_slice_l W _ _ _ _ elem_bytes .i64 _ (by omega) (by omega), elem_is, size_byte]
    rfl
  · refine ⟨if cap = n then some ⟨blk, off, none⟩ else some ⟨blk, off + n, none⟩, cap - n, fun W => ?_, hz.drop n, ?_⟩
    · rw [run_slice_l W _ _ _ _ elem_bytes .i64 _ (by omega) (by omega), elem_is, size_byte]
      show Result.ok (sliced _ _ _ _ _) W = _
      unfold sliced
      rw [Int.toNat_natCast, Nat.mul_one]
      congr 2
      show (if cap = n then some (⟨blk, off, none⟩ : Addr) else some (Addr.add ⟨blk, off, none⟩ n)) = _
      rw [show Addr.add ⟨blk, off, none⟩ n = ⟨blk, off + n, none⟩ from by unfold Addr.add; split <;> simp_all]
    · have hl : (zs.drop n).length = zs.length - n := List.length_drop
      by_cases hcap : cap = n
      · refine .inl ⟨⟨if cap = n then some ⟨blk, off, none⟩ else some ⟨blk, off + n, none⟩, cap - n, ?_⟩, List.drop_eq_nil_of_le (by omega)⟩
        rw [show zs.length - n = 0 from by omega]
      · refine .inr ⟨blk, off + n, cap - n, ?_, by omega, by omega, fun i hi => ?_, fun hp => hne (by omega)⟩
        · rw [if_neg hcap, hl]
        · rw [List.getElem?_drop, Nat.add_assoc]
          exact hb (n + i) (by omega)
/-- v[:n] of bytes. -/
theorem BySl.cutH {S : Nat → Prop} {w : World} {v : Value} {zs : List Int} (h : BySl S w v zs) (n : Nat) (hn : n ≤ zs.length) :
    ∃ x c, (∀ W, (Instr.slice 26 v none (some (.int .i64 (n : Int))) none).run Tryz.prog W = .ok (.slice x n c) W) ∧ BySl S w (.slice x n c) (zs.take n) := by
  obtain ⟨hz, ⟨⟨a, c, rfl⟩, rfl⟩ | ⟨blk, off, cap, rfl, hc, hm, hb, hne⟩⟩ := h
  · have h0 : n = 0 := by simpa using hn
    subst h0
    refine ⟨if c = 0 then a else a.map (·.add (0 * 1)), c - 0, fun W => ?_, fun i => by simp, .inl ⟨⟨_, _, rfl⟩, rfl⟩⟩
    rw [run_slice_h W _ _ _ _ elem_bytes .i64 _ (by omega) (by omega), elem_is, size_byte]
    rfl
  · refine ⟨some ⟨blk, off, none⟩, cap, fun W => ?_, hz.take n, ?_⟩
    · rw [run_slice_h W _ _ _ _ elem_bytes .i64 _ (by omega) (by omega), elem_is, size_byte]
      show Result.ok (sliced _ _ _ _ _) W = _
      unfold sliced
      congr 2
      split <;> simp [Addr.add]
    · have hl : (zs.take n).length = n := by rw [List.length_take]; omega
      refine .inr ⟨blk, off, cap, ?_, by omega, hm, fun i hi => ?_, fun hp => hne (by omega)⟩
      · rw [hl]
      · rw [hl] at hi
        rw [List.getElem?_take_of_lt hi]
        exact hb i (by omega)
theorem own_slice {w : World} {base n : Nat} {t : TypeId} {size : Nat} {v : Value} {xs : List Value} (h : w.ownsRow base t size v n xs) : ∃ a c, v = .slice a n c := by
  rcases h.2 with ⟨rfl, h0⟩ | ⟨g, cap, cur, rfl, _⟩
  · exact ⟨none, 0, by rw [h0]⟩
  · exact ⟨_, _, rfl⟩
set_option maxHeartbeats 400000 in
theorem read_any {S : Nat → Prop} (v : Value) (zs : List Int) (w : World) (h : BySl S w v zs) (hbig : zs.length ≤ 140737488355328) :
    Calls Tryz.prog 24 #[v] w fun e w' => ∃ B, w.heap.size ≤ B ∧ e = .returned (.pointer (some ⟨B, 0, none⟩)) ∧ EyeAt w' B zs 0 ∧ Kp Nb w w' := by
  have H := hid h
  clear h
  go_enter Tryz.func24, Tryz.ntmps24
  go_wp2_with fail
  refine (clone_any v zs _ H.out hbig).mono ?_
  rintro e w1 ⟨v', rfl, ho, k1⟩
  obtain ⟨x', c', rfl⟩ := own_slice ho
  have HO := hid ho
  have K1 := hid k1
  clear ho k1
  go_wp2
  go_ret
  have hsz := K1.out.size
  refine ⟨w1.heap.size, hsz, rfl, ⟨_, Blk.new w1 92 [.slice x' zs.length c', .int .i64 0], ?_⟩, K1.out.alloc _⟩
  have hb : BySl (Jb w1.heap.size) w1 (.slice x' zs.length c') zs := BySl.ofOwn HO.out H.out.1 (fun k _ hk h => by unfold Jb at h; omega)
  exact hb.kept (S' := Nb) ((Kp.refl Nb w1).alloc _) (fun _ h => absurd h (fun h => h))
def readN (zs : List Int) (e most : Int) : Int × List Int × Int :=
  if e ≠ 0 then (0, zs, e)
  else if (firstOf zs).2.2 ≠ 0 then (0, [], (firstOf zs).2.2)
  else if most < (firstOf zs).1 then (0, [], 12)
  else ((firstOf zs).1, zs.drop (firstOf zs).2.1, 0)
end
section
open Go.RowKit
theorem firstOf_range (zs : List Int) (hz : IsBytes zs) : 0 ≤ (firstOf zs).1 ∧ (firstOf zs).1 < 18446744073709551616 := by
  unfold firstOf
  have h0 := hz 0
  have h1 := beTo_range (zs.drop 1) (zs[0]?.getD 0 - 247).toNat
  split
  · exact ⟨Int.le_refl _, by show (0 : Int) < _; decide⟩
  · split
    · exact ⟨h0.1, by show zs[0]?.getD 0 < _; omega⟩
    · split
      · exact ⟨Int.le_refl _, by show (0 : Int) < _; decide⟩
      · split
        · exact h1
        · exact ⟨Int.le_refl _, by show (0 : Int) < _; decide⟩
theorem readN_range (zs : List Int) (e most : Int) (hz : IsBytes zs) : 0 ≤ (readN zs e most).1 ∧ (readN zs e most).1 < 18446744073709551616 := by
  have h := firstOf_range zs hz
  unfold readN
  split
  · exact ⟨Int.le_refl _, by show (0 : Int) < _; decide⟩
  · split
    · exact ⟨Int.le_refl _, by show (0 : Int) < _; decide⟩
    · split
      · exact ⟨Int.le_refl _, by show (0 : Int) < _; decide⟩
      · exact h
theorem readN_left (zs : List Int) (e most : Int) : (readN zs e most).2.1.length ≤ zs.length := by
  unfold readN
  split
  · exact Nat.le_refl _
  · split
    · exact Nat.zero_le _
    · split
      · exact Nat.zero_le _
      · show (zs.drop _).length ≤ _
        rw [List.length_drop]; omega
/-- What Fixed(n) answers, what is left, the error. -/
def fixN (zs : List Int) (e n : Int) : List Int × List Int × Int :=
  if e ≠ 0 then ([], zs, e)
  else if n < 0 then ([], [], 2)
  else if (zs.length : Int) < n then ([], [], 10)
  else (zs.take n.toNat, zs.drop n.toNat, 0)
/-- What Text(most) answers, what is left, the error. -/
def textN (zs : List Int) (e most : Int) : List Int × List Int × Int :=
  if (readN zs e 18446744073709551615).2.2 ≠ 0 then ([], (readN zs e 18446744073709551615).2.1, (readN zs e 18446744073709551615).2.2)
  else if most < 0 ∨ most < (readN zs e 18446744073709551615).1 then ([], [], 12)
  else fixN (readN zs e 18446744073709551615).2.1 0 (readN zs e 18446744073709551615).1
end

end Go.Proofs.YtogoophofgkboaaGreatDoor
