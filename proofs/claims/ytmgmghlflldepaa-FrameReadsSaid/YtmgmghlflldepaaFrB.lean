/-
  Layer 19: frames: walks of Turn, sum, Put. Conditions: bytes; fewer than 2^46 of them.
-/
import Derived.Test.YtmgmghlflldepaaFrA
namespace Go.Proofs.Ytmgmghlflldepaa
open Go.RowKit

theorem by_old {w w2 : World} {u : Value} {ys : List Int} {S : Nat → Prop} (h : BySl Nb w u ys) (k : Kp Nb w w2) (hS : ∀ i, i < w.heap.size → ¬ S i) : BySl S w2 u ys := by
  refine ⟨h.1, ?_⟩
  rcases (h.kept k (fun _ h => h)).2 with h2 | ⟨blk, off, cap, rfl, hc, hm, hb, -⟩
  · exact .inl h2
  · refine .inr ⟨blk, off, cap, rfl, hc, hm, hb, fun hp => hS blk ?_⟩
    rcases h.2 with ⟨⟨a, c, e⟩, e0⟩ | ⟨blk', off', cap', e, _, _, hb', _⟩
    · rw [e0] at hp; simp at hp
    · injection e with e _ _
      injection e with e
      injection e with e e2 _
      subst e e2
      exact World.block_lt_of_cell? _ _ (hb' 0 hp)
theorem BySl.shp {S : Nat → Prop} {w : World} {v : Value} {zs : List Int} (h : BySl S w v zs) : ∃ y d, v = .slice y zs.length d := by
  rcases h.2 with ⟨⟨a, c, rfl⟩, rfl⟩ | ⟨blk, off, cap, rfl, _⟩
  · exact ⟨_, _, rfl⟩
  · exact ⟨_, _, rfl⟩
abbrev bF (z : Int) : List Value := [.int .u8 z]
theorem flat_bytes : ∀ zs : List Int, flatR bF zs = zs.map (Value.int .u8)
  | [] => rfl
  | z :: r => by rw [flatR_cons, flat_bytes r]; rfl
def turnB (zs : List Int) (at' x : Int) : List Int := if 0 ≤ at' ∧ at' < zs.length then zs.set at'.toNat (bits .xor .u8 (zs[at'.toNat]?.getD 0) x) else zs
theorem turnB_length (zs : List Int) (a x : Int) : (turnB zs a x).length = zs.length := by unfold turnB; split <;> simp
theorem turnB_bytes {zs : List Int} (hz : IsBytes zs) (a x : Int) : IsBytes (turnB zs a x) := by
  unfold turnB
  split
  · intro i
    rw [List.getElem?_set]
    split
    · split
      · have h1 := bits_lo_u8 .xor (zs[a.toNat]?.getD 0) x
        have h2 := bits_hi_u8 .xor (zs[a.toNat]?.getD 0) x
        simp only [Option.getD_some]
        omega
      · simp
    · exact hz i
  · exact hz

set_option maxRecDepth 100000 in
set_option maxHeartbeats 2000000 in
theorem fturn_any (v : Value) (zs : List Int) (a x : Int) (w : World) (h : BySl Nb w v zs) (hbig : zs.length ≤ 70368744177664) :
    Calls Try.prog 18 #[v, .int .i64 a, .int .u8 x] w fun e w' => ∃ v', e = .returned v' ∧ BySl Nb w' v' (turnB zs a x) ∧ Kp Nb w w' := by
  have CC := hid (clone_any v zs w h (by omega))
  have HZ := hid h.1
  obtain ⟨y, d, rfl⟩ : ∃ y d, v = .slice y zs.length d := by
    rcases h.2 with ⟨⟨a, c, rfl⟩, rfl⟩ | ⟨blk, off, cap, rfl, _⟩
    · exact ⟨_, _, rfl⟩
    · exact ⟨_, _, rfl⟩
  obtain ⟨n, hn⟩ : ∃ n, zs.length = n := ⟨_, rfl⟩
  have HN := hid hn
  rw [hn] at CC ⊢
  have hn9 : n ≤ 70368744177664 := by rw [← hn]; exact hbig
  clear h hbig hn
  by_cases hr : 0 ≤ a ∧ a < n
  · obtain ⟨p, rfl⟩ : ∃ p : Nat, a = (p : Int) := ⟨a.toNat, by omega⟩
    have hp : p < n := by omega
    have HT : Hid (turnB zs p x = zs.set p (bits .xor .u8 (zs[p]?.getD 0) x)) := hid (by unfold turnB; rw [HN.out, if_pos (by omega), Int.toNat_natCast])
    clear hr
    go_enter Try.func18, Try.ntmps18
    go_wp2_with fail
    refine CC.out.mono ?_
    rintro e w1 ⟨r, rfl, ho, k1⟩
    obtain ⟨g, cap, rest, rfl, hg, hb, hc, hm⟩ := own_blk (c := 1) ho (by omega)
    have HB := hid hb
    have HG := hid hg
    have c1 := hb.cell p
    rw [List.getElem?_append_left (by rw [List.length_map, HN.out]; exact hp), List.getElem?_map, List.getElem?_eq_getElem (by rw [HN.out]; exact hp)] at c1
    have hz9 : zs[p]?.getD 0 = zs[p]'(by rw [HN.out]; exact hp) := by rw [List.getElem?_eq_getElem (by rw [HN.out]; exact hp)]; rfl
    rw [Option.map_some, ← hz9] at c1
    have f1 := hb.frozen p
    rw [← hz9] at *
    obtain ⟨z, hz⟩ : ∃ z, zs[p]?.getD 0 = z := ⟨_, rfl⟩
    rw [hz] at c1 HT
    obtain ⟨q, hq⟩ : ∃ q, bits .xor .u8 z x = q := ⟨_, rfl⟩
    rw [hq] at HT
    have K1 := hid k1
    have HC : Hid (n ≤ cap ∧ cap ≤ maxLen) := hid ⟨hc, hm⟩
    have RB : Hid (BySl Nb (w1.setCell ⟨g, p, none⟩ (.int .u8 q)) (.slice (some ⟨g, 0, none⟩) n cap) (turnB zs p x)) := hid (by
      have hb2 := hb.set p (.int .u8 q)
      have hl := turnB_length zs p x
      rw [HN.out] at hl
      refine ⟨turnB_bytes HZ.out _ _, .inr ⟨g, 0, cap, by rw [hl], by rw [hl]; exact hc, hm, fun i hi => ?_, fun _ h => h⟩⟩
      rw [hl] at hi
      rw [Nat.zero_add, hb2.cell, List.set_append_left _ _ (by rw [List.length_map, HN.out]; exact hp), List.getElem?_append_left (by rw [List.length_set, List.length_map, HN.out]; exact hi), HT.out, ← List.map_set, List.getElem?_map, List.getElem?_eq_getElem (by rw [List.length_set, HN.out]; exact hi)]
      rfl)
    have KR : Hid (Kp Nb w (w1.setCell ⟨g, p, none⟩ (.int .u8 q))) := hid (k1.setCell (p := ⟨g, p, none⟩) (fun hlt => absurd hlt (Nat.not_lt.2 hg)) _)
    unfold maxLen at hm
    clear ho k1 hb hg hz hz9
    go_wp2
    go_ret
    exact ⟨_, rfl, RB.out, KR.out⟩
  · have HT : Hid (turnB zs a x = zs) := hid (by unfold turnB; rw [HN.out, if_neg hr])
    rcases (show a < 0 ∨ (0 ≤ a ∧ ¬ a < n) by omega) with h1 | ⟨h1, h2⟩
    · have d1 : decide (a ≥ 0) = false := decide_eq_false (by omega)
      clear hr h1
      go_enter Try.func18, Try.ntmps18
      go_wp2_with fail
      refine CC.out.mono ?_
      rintro e w1 ⟨r, rfl, ho, k1⟩
      have RB : Hid (BySl Nb w1 r zs) := hid (BySl.ofOwn (base := w.heap.size) (by rw [HN.out]; exact ho) HZ.out (fun _ _ _ h => h))
      have K1 := hid k1
      obtain ⟨y1, d1', rfl⟩ := own_shape ho
      clear ho k1
      go_wp2
      go_ret
      exact ⟨_, rfl, by rw [HT.out]; exact RB.out, K1.out⟩
    · have d1 : decide (a ≥ 0) = true := decide_eq_true h1
      have d2 : decide (a < (n : Int)) = false := decide_eq_false h2
      clear hr h1 h2
      go_enter Try.func18, Try.ntmps18
      go_wp2_with fail
      refine CC.out.mono ?_
      rintro e w1 ⟨r, rfl, ho, k1⟩
      have RB : Hid (BySl Nb w1 r zs) := hid (BySl.ofOwn (base := w.heap.size) (by rw [HN.out]; exact ho) HZ.out (fun _ _ _ h => h))
      have K1 := hid k1
      obtain ⟨y1, d1', rfl⟩ := own_shape ho
      clear ho k1
      go_wp2
      go_ret
      exact ⟨_, rfl, by rw [HT.out]; exact RB.out, K1.out⟩

def sumK (h : Int) (k : Nat) : List Int := (List.range k).map (byteOf h)
theorem sumK_succ (h : Int) (k : Nat) : sumK h (k + 1) = sumK h k ++ [byteOf h k] := by unfold sumK; rw [List.range_succ, List.map_append]; rfl
theorem sumK_length (h : Int) (k : Nat) : (sumK h k).length = k := by simp [sumK]
theorem byteOf_rng (h : Int) (i : Nat) : 0 ≤ byteOf h i ∧ byteOf h i < 256 := by unfold byteOf; omega
theorem sumK_bytes (h : Int) (k : Nat) : IsBytes (sumK h k) := IsBytes.of fun z hz => by
  obtain ⟨i, _, rfl⟩ := List.mem_map.1 hz
  exact byteOf_rng h i
/-- A frame's sum. -/
def sumF (zs : List Int) : List Int := sumK (hash (seedA 5) (seedB 5) zs) 8
theorem byte_info3 : ∃ i z, Try.prog.info? 5 = some i ∧ i.zero = some z ∧ i.size = 1 ∧ i.bytes = 1 ∧ z.cells.size = 1 := by
  have h : ((Try.prog.info? 5).map fun i => (i.zero.map fun z => z.cells.size, i.size, i.bytes)) = some (some 1, 1, 1) := by kernel_rfl
  obtain ⟨i, hi, h2⟩ := Option.map_eq_some_iff.1 h
  simp only [Prod.mk.injEq] at h2
  obtain ⟨z, hz, hz2⟩ := Option.map_eq_some_iff.1 h2.1
  exact ⟨i, z, hi, hz, h2.2.1, h2.2.2, hz2⟩
theorem bytes_one {W : World} {B : Nat} {z : Int} (h : Blk W B 5 [.int .u8 z]) : RowsSl bF 0 1 W (.slice (some ⟨B, 0, none⟩) 1 1) [z] := by
  refine .inr ⟨B, 0, 1, rfl, Nat.le_refl _, by unfold maxLen; omega, fun i hi => ?_⟩
  have e : i = 0 := by simp at hi; omega
  subst e
  exact h.range 0 _ (fun j _ => by rw [Nat.zero_add]; rfl)
theorem ownsRow_kpn {w w' : World} {base e size k : Nat} {v : Value} {xs : List Value} (h : w.ownsRow base e size v k xs) (hk : Kp Nb w w') : w'.ownsRow base e size v k xs :=
  ownsRow_same h (fun g hg => by obtain ⟨-, o, ho, -⟩ := row_cells h hg; exact hk.heap (Array.getElem?_eq_some_iff.1 ho).1 (fun h => h))
def SumR (w : World) (h : Int) (i u : Value) (wr : World) : Prop := ∃ k : Nat, k ≤ 8 ∧ i = .int .i64 k ∧ Hid (wr.ownsRow w.heap.size 5 1 u k ((sumK h k).map (Value.int .u8))) ∧ Hid (Kp Nb w wr)

set_option maxRecDepth 100000 in
set_option maxHeartbeats 2000000 in
theorem fsum_any (v : Value) (zs : List Int) (w : World) (hv : BySl Nb w v zs) (hbig : zs.length ≤ 70368744177664) :
    Calls Try.prog 27 #[v] w fun e w' => ∃ v', e = .returned v' ∧ w'.ownsRow w.heap.size 5 1 v' 8 ((sumF zs).map (Value.int .u8)) ∧ Kp Nb w w' := by
  obtain ⟨y, d, rfl⟩ := hv.shp
  have HV := hid hv
  have HB := hid hbig
  obtain ⟨sa, hsa⟩ : ∃ s, seedA 5 = s := ⟨_, rfl⟩
  obtain ⟨sb, hsb⟩ : ∃ s, seedB 5 = s := ⟨_, rfl⟩
  obtain ⟨h, hh⟩ : ∃ h, hash (seedA 5) (seedB 5) zs = h := ⟨_, rfl⟩
  have HF : Hid (sumF zs = sumK h 8) := hid (by unfold sumF; rw [hh])
  have CS : Hid (∀ w, Calls Try.prog 47 #[.int .i64 5] w fun e w' => e = .returned (.agg #[.int .u64 sa, .int .u64 sb]) ∧ Kp Nb w w') := hid (fun w => by rw [← hsa, ← hsb]; exact seed_any 5 w)
  have CH : Hid (∀ u wq, PsSl wq u [zs] → Calls Try.prog 46 #[.agg #[.int .u64 sa, .int .u64 sb], u] wq fun e w' => e = .returned (.int .u64 h) ∧ Kp Nb wq w') := hid (fun u wq hp => by
    have g := hash_any (seedA 5) (seedB 5) u [zs] wq hp (by have := HB.out; simp; omega)
    rw [show [zs].flatten = zs from by simp, hh, hsa, hsb] at g
    exact g)
  clear hv hbig hsa hsb hh
  go_enter Try.func27, Try.ntmps27
  go_wp2_with fail
  refine (CS.out _).mono ?_
  rintro e w1 ⟨rfl, k1⟩
  have K1 := hid k1
  have HV1 := hid (HV.out.kept k1 (fun _ h => h))
  clear k1
  go_wp2_with fail
  refine (CH.out _ _ (PsSl.one HV1.out _)).mono ?_
  rintro e w2 ⟨rfl, k2⟩
  have K2 := hid ((K1.out.alloc _).trans k2 (fun _ _ h => h))
  clear k2 K1 HV1
  go_wp2
  go_loopw [10, 4] (SumR w h) (fun i _ _ => 8 - (intOf i).toNat)
  case atStart => exact ⟨0, by omega, rfl, hid ⟨rfl, .inl ⟨rfl, rfl⟩⟩, K2⟩
  case round =>
    clear K2
    obtain ⟨k, hk, rfl, HA, HK⟩ := hrel
    obtain ⟨y3, d3, rfl⟩ := own_shape HA.out
    by_cases hlt : k < 8
    · have hsh : (0 : Int) ≤ 56 - 8 * (k : Int) := by omega
      obtain ⟨i0, z0, hi, hz0, hz1, hz2, hz3⟩ := byte_info3
      have B2 : Hid (w.heap.size ≤ (wr.alloc (.cells #[.int .u8 (byteOf h k)] 5 (0, 0))).heap.size ∧ k + [byteOf h k].length ≤ maxLen ∧ (k + [byteOf h k].length) * 1 ≤ 140737488355328) := hid (by
        have h1 := HK.out.size
        have h2 := ((Kp.refl Nb wr).alloc (.cells #[.int .u8 (byteOf h k)] 5 (0, 0))).size
        refine ⟨Nat.le_trans h1 h2, ?_, ?_⟩ <;> rw [List.length_singleton]
        · unfold maxLen; omega
        · omega)
      go_wp2_with (at_builtin; refine wpList_append_rows (f := bF) (z := 0) (c := 1) rfl _ _ 22 rfl w.heap.size 5 i0 z0 1 Try.underlying22 hi hz0 hz1 hz2 hz3 (by decide) _ _ _ rfl (ownsRow_kpn HA.out ((Kp.refl Nb _).alloc _)) _ [byteOf h k] rfl (bytes_one (Blk.new _ _ _)) (fun q _ => rfl) (fun q _ u hu => by rw [List.mem_singleton.1 hu]; rfl) B2.out.2.1 B2.out.2.2 B2.out.1 ?_)
      intro v10 w10 hown hgrow
      have RE : Hid (SumR w h (.int .i64 ((k : Int) + 1)) v10 w10) := hid (by
        refine ⟨k + 1, by omega, by go_num, hid ?_, hid ((HK.out.alloc _).grown hgrow (fun q hq hlt => by have := (row_cells HA.out hq).1; omega))⟩
        have e : (sumK h (k + 1)).map (Value.int .u8) = (sumK h k).map (Value.int .u8) ++ flatR bF [byteOf h k] := by rw [sumK_succ, List.map_append, flat_bytes]
        rw [e]
        simpa only [List.length_singleton, List.length_cons, List.length_nil, Nat.zero_add] using hown)
      obtain ⟨a10, c10, rfl⟩ := own_shape hown
      clear hown hgrow
      go_wp2
      go_roundw
      case rel => exact RE.out
      case measure => simp [intOf]; omega
    · obtain rfl : k = 8 := by omega
      go_wp2
      go_ret
      exact ⟨_, rfl, by rw [HF.out]; exact HA.out, HK.out⟩

end Go.Proofs.Ytmgmghlflldepaa
