/-
  Layer 15: Union: a new filter of the two, byte by byte. Condition: both filters as they are held, of one size.
  Layer 15: plain: the bits of a union. Conditions: bytes; lists of one length.
  Layer 15: plain: a union with a filter of one mark is that mark added; what was added may be there; how many bits more. Conditions: bytes; so many bits as may be.
  Layer 15: the law BloomHolds. Condition: a case as its kind holds it.
-/
import Derived.Test.YtpgiinogfmhfiaaPkA
import Derived.Test.YtpgiinogfmhfiaaPkC
import Derived.Test.YtpgiinogfmhfiaaPkE
namespace Go.Proofs.Ytpgiinogfmhfiaa
open Go.RowKit

/-- After `k` bytes of the second. -/
def orK (zs ys : List Int) : Nat → List Int
  | 0 => zs
  | k + 1 => (orK zs ys k).set k (bits .or .u8 ((orK zs ys k)[k]?.getD 0) (ys[k]?.getD 0))
def orL (zs ys : List Int) : List Int := orK zs ys ys.length
theorem orK_len (zs ys : List Int) : ∀ k, (orK zs ys k).length = zs.length
  | 0 => rfl
  | k + 1 => by unfold orK; rw [List.length_set]; exact orK_len zs ys k
def UnR (W : World) (B C : Nat) (zs ys : List Int) (i : Value) (wr : World) : Prop := ∃ k : Nat, k ≤ ys.length ∧ i = .int .i64 k ∧ Hid (FlAt wr B C (orK zs ys k)) ∧ Hid (Kp (fun b => b = C) W wr)
set_option maxRecDepth 100000 in
set_option maxHeartbeats 4000000 in
theorem lunion_yes (B C B2 C2 : Nat) (zs ys : List Int) (w : World) (h : FlAt w B C zs) (h' : FlAt w B2 C2 ys) (hl : zs.length = ys.length) :
    Calls Try.prog 11 #[.pointer (some ⟨B, 0, none⟩), .pointer (some ⟨B2, 0, none⟩)] w fun e w' => ∃ B' C', e = .returned (.tuple #[.pointer (some ⟨B', 0, none⟩), .int .i64 0]) ∧ FlAt w' B' C' (orL zs ys) ∧ w.heap.size ≤ B' ∧ w.heap.size ≤ C' ∧ Kp Nb w w' := by
  obtain ⟨cap, rest, h1, h2, h3, h4⟩ := h.at'
  obtain ⟨cap2, rest2, g1, g2, g3, g4⟩ := h'.at'
  have HBY : Hid (BySl Nb w (.slice (some ⟨C, 0, none⟩) zs.length cap) zs) := hid (h.by' (h1.cell 0))
  have HSZ := hid h.size
  have HOK := hid h.ok
  have HOK2 := hid h'.ok
  have G2 := hid g2
  have HY := hid h'
  obtain ⟨n, hn⟩ : ∃ n, zs.length = n := ⟨_, rfl⟩
  have HN := hid hn
  have HN2 : Hid (ys.length = n) := hid (by rw [← hl]; exact hn)
  rw [hn] at h1 HBY HSZ
  rw [HN2.out] at g1 g3
  have H1 := hid h1
  have G1 := hid g1
  have c0 := h1.cell 0
  have d0 := g1.cell 0
  simp only [List.getElem?_cons_zero] at c0 d0
  have CC : Hid (∀ w0, Kp Nb w w0 → Calls Try.prog 29 #[.slice (some ⟨C, 0, none⟩) n cap] w0 fun e w' => ∃ v', e = .returned v' ∧ w'.ownsRow w0.heap.size 5 1 v' n (zs.map (Value.int .u8)) ∧ Kp Nb w0 w') := hid (fun w0 k0 => by
    have h := clone_any _ zs w0 (HBY.out.kept k0 (fun _ h => h)) (by rw [hn]; have := HSZ.out; omega)
    rw [hn] at h
    exact h)
  have L2 : Hid (B2 < w.heap.size ∧ C2 < w.heap.size) := hid h'.lt
  clear h h' h1 h2 h3 h4 g1 g2 hl hn
  have HC2 : Hid (n ≤ cap2 ∧ cap2 ≤ maxLen) := hid ⟨g3, g4⟩
  clear g3 g4
  go_enter Try.func11, Try.ntmps11
  go_upto_region 3 with fail
  refine region_vals2 [none, none, none, none, none, none, none, none, none, none, none, none, none, none, none, some 0, some 1, some 2, some 3, some 4, some 5, some 6, some 7, some 8, some 9, some 10, none, none, none, none, none, none, none, none, none, none, none, none, none, none, none, none, none, none, none, none, none, none, none, none, none, none, none, none, none] [[(0, none)], [(15, some 0)], [(16, some 1)], [(17, some 2)], [(18, some 3)], [(1, none)], [(20, some 5)], [(21, some 6)], [(22, some 7)], [(23, some 8)], [(19, some 4), (24, some 9)]] [some 15, some 16, some 17, some 18, some 19, some 20, some 21, some 22, some 23, some 24, some 25] [.pointer (some ⟨B, 0, none⟩), .pointer (some ⟨B, 0, none⟩), .pointer (some ⟨B, 0, none⟩), .slice (some ⟨C, 0, none⟩) n cap, .int .i64 (n : Int), .pointer (some ⟨B2, 0, none⟩), .pointer (some ⟨B2, 0, none⟩), .pointer (some ⟨B2, 0, none⟩), .slice (some ⟨C2, 0, none⟩) n cap2, .int .i64 (n : Int), .bool false] (fun w' => Hid (Kp Nb w w')) (by kernel_rfl) (by kernel_rfl) (by kernel_rfl) ?hS (VFrom.all (n := 11) (by kernel_rfl) ?hstep) ?hend
  case hstep =>
    refine VFrom.cons (VStep.val _ rfl _ rfl (.pointer (some ⟨B, 0, none⟩)) rfl trivial (fun ev wq hS he hr => ?_)) ?_
    · have r0 : ev (.tmp 0) = .pointer (some ⟨B, 0, none⟩) := hr (0, none) (by simp); have hk := he.1; clear hr he
      go_simp
    refine VFrom.cons (VStep.val _ rfl _ rfl (.pointer (some ⟨B, 0, none⟩)) rfl trivial (fun ev wq hS he hr => ?_)) ?_
    · have r0 : ev (.tmp 15) = .pointer (some ⟨B, 0, none⟩) := hr (15, some 0) (by simp); have hk := he.1; clear hr he
      go_simp
    refine VFrom.cons (VStep.val _ rfl _ rfl (.pointer (some ⟨B, 0, none⟩)) rfl trivial (fun ev wq hS he hr => ?_)) ?_
    · have r0 : ev (.tmp 16) = .pointer (some ⟨B, 0, none⟩) := hr (16, some 1) (by simp); have hk := he.1; clear hr he
      go_simp
    refine VFrom.cons (VStep.val _ rfl _ rfl (.slice (some ⟨C, 0, none⟩) n cap) rfl trivial (fun ev wq hS he hr => ?_)) ?_
    · have r0 : ev (.tmp 17) = .pointer (some ⟨B, 0, none⟩) := hr (17, some 2) (by simp); have hk := he.1; clear hr he
      have c0 := ((H1.out.kept hS.out (fun h => h)).cell 0)
      go_simp
    refine VFrom.cons (VStep.val _ rfl _ rfl (.int .i64 (n : Int)) rfl trivial (fun ev wq hS he hr => ?_)) ?_
    · have r0 : ev (.tmp 18) = .slice (some ⟨C, 0, none⟩) n cap := hr (18, some 3) (by simp); have hk := he.1; clear hr he
      go_simp
    refine VFrom.cons (VStep.val _ rfl _ rfl (.pointer (some ⟨B2, 0, none⟩)) rfl trivial (fun ev wq hS he hr => ?_)) ?_
    · have r0 : ev (.tmp 1) = .pointer (some ⟨B2, 0, none⟩) := hr (1, none) (by simp); have hk := he.1; clear hr he
      go_simp
    refine VFrom.cons (VStep.val _ rfl _ rfl (.pointer (some ⟨B2, 0, none⟩)) rfl trivial (fun ev wq hS he hr => ?_)) ?_
    · have r0 : ev (.tmp 20) = .pointer (some ⟨B2, 0, none⟩) := hr (20, some 5) (by simp); have hk := he.1; clear hr he
      go_simp
    refine VFrom.cons (VStep.val _ rfl _ rfl (.pointer (some ⟨B2, 0, none⟩)) rfl trivial (fun ev wq hS he hr => ?_)) ?_
    · have r0 : ev (.tmp 21) = .pointer (some ⟨B2, 0, none⟩) := hr (21, some 6) (by simp); have hk := he.1; clear hr he
      go_simp
    refine VFrom.cons (VStep.val _ rfl _ rfl (.slice (some ⟨C2, 0, none⟩) n cap2) rfl trivial (fun ev wq hS he hr => ?_)) ?_
    · have r0 : ev (.tmp 22) = .pointer (some ⟨B2, 0, none⟩) := hr (22, some 7) (by simp); have hk := he.1; clear hr he
      have c0 := ((G1.out.kept hS.out (fun h => h)).cell 0)
      go_simp
    refine VFrom.cons (VStep.val _ rfl _ rfl (.int .i64 (n : Int)) rfl trivial (fun ev wq hS he hr => ?_)) ?_
    · have r0 : ev (.tmp 23) = .slice (some ⟨C2, 0, none⟩) n cap2 := hr (23, some 8) (by simp); have hk := he.1; clear hr he
      go_simp
    refine VFrom.cons (VStep.val _ rfl _ rfl (.bool false) rfl trivial (fun ev wq hS he hr => ?_)) ?_
    · have r0 : ev (.tmp 19) = .int .i64 (n : Int) := hr (19, some 4) (by simp); have r1 : ev (.tmp 24) = .int .i64 (n : Int) := hr (24, some 9) (by simp); have hk := he.1; clear hr he
      go_simp
    exact VFrom.nil
  case hS => exact hid (Kp.refl Nb w).drew
  case hend =>
  intro w0 k0
  have K0 := k0
  clear k0 c0 d0
  simp only [putAll, List.zip_cons_cons, List.zip_nil_right, List.foldl_cons, List.foldl_nil, Act.put, List.setIfInBounds_toArray, List.set_cons_zero, List.set_cons_succ]
  have CC0 := hid (CC.out w0 K0.out)
  have H10 := hid (H1.out.kept K0.out (fun h => h))
  have c0 := H10.out.cell 0
  simp only [List.getElem?_cons_zero] at c0
  clear CC
  go_wp2_with fail
  refine CC0.out.mono ?_
  rintro e w1 ⟨vc, rfl, ow, k1⟩
  obtain ⟨g, cp, rest', rfl, hg, hb, hn1, hx1⟩ := own_blk ow (by have := HSZ.out; omega)
  obtain ⟨W2, hW2⟩ : ∃ W, W = w1.alloc (.cells #[.slice (some ⟨g, 0, none⟩) n cp] 60) := ⟨_, rfl⟩
  obtain ⟨Bn, hBn⟩ : ∃ N, w1.heap.size = N := ⟨_, rfl⟩
  have k2 : Kp Nb w1 W2 := by rw [hW2]; exact (Kp.refl Nb w1).alloc _
  have FL2 : Hid (FlAt W2 Bn g zs) := hid (by
    refine ⟨HOK.out, ⟨cp, rest', ?_, hb.kept k2 (fun h => h), by rw [HN.out]; exact hn1, hx1⟩, by rw [HN.out]; exact HSZ.out, fun e => ?_⟩
    · rw [HN.out, hW2, ← hBn]; exact Blk.new w1 _ [.slice (some ⟨g, 0, none⟩) n cp]
    · have := hb.lt; omega)
  have kk := K0.out.trans (k1.trans k2 (fun _ _ h => h)) (fun _ _ h => h)
  have K2 := hid kk
  have LG : Hid (w.heap.size ≤ g ∧ w.heap.size ≤ Bn ∧ g ≠ Bn) := hid ⟨Nat.le_trans K0.out.size hg, by rw [← hBn]; exact Nat.le_trans K0.out.size k1.size, by have := hb.lt; omega⟩
  have G12 := hid (G1.out.kept kk (fun h => h))
  have d1 := G12.out.cell 0
  simp only [List.getElem?_cons_zero] at d1
  have DX : Hid (∀ w', Kp (fun b => b = g) W2 w' → Blk w' C2 5 (ys.map (Value.int .u8) ++ rest2)) := hid (fun w' k => (G2.out.kept kk (fun h => h)).kept k (fun h => by have h' : C2 = g := h; have := LG.out; have := L2.out; omega))
  clear ow k1 hg hb hn1 hx1 k2 kk c0 CC0 K0 H10
  go_upto_region 6 with fail
  rw [show w1.alloc (.cells #[.slice (some ⟨g, 0, none⟩) n cp] 60) = W2 from hW2.symm]
  clear hW2
  go_wp2
  clear d1
  go_loopw [38] (UnR W2 Bn g zs ys) (fun i _ => n - (intOf i).toNat)
  case atStart => exact ⟨0, by omega, rfl, FL2, hid (Kp.refl _ _)⟩
  case round =>
    obtain ⟨k, hk, rfl, HA, HK⟩ := hrel
    by_cases hlt : k < n
    · have HLT := hid hlt
      obtain ⟨zk, hzk⟩ : ∃ z, orK zs ys k = z := ⟨_, rfl⟩
      have HFk : Hid (FlAt wr Bn g zk) := hid (by rw [← hzk]; exact HA.out)
      have HZL : Hid (zk.length = n) := hid (by rw [← hzk, orK_len]; exact HN.out)
      obtain ⟨cpk, restk, h1, h2, h3, h4⟩ := HFk.out.at'
      rw [HZL.out] at h1 h3
      have H1k := hid h1
      have H2k := hid h2
      obtain ⟨z, hz⟩ : ∃ z, zk[k]?.getD 0 = z := ⟨_, rfl⟩
      obtain ⟨y, hy⟩ : ∃ z, ys[k]?.getD 0 = z := ⟨_, rfl⟩
      have CZ : Hid (wr.cell? ⟨g, k, none⟩ = some (.int .u8 z)) := hid (by
        rw [h2.cell k, List.getElem?_append_left (by rw [List.length_map, HZL.out]; exact hlt), List.getElem?_map, List.getElem?_eq_getElem (by rw [HZL.out]; exact hlt), Option.map_some]
        rw [List.getElem?_eq_getElem (by rw [HZL.out]; exact hlt), Option.getD_some] at hz
        rw [hz])
      have CY : Hid (wr.cell? ⟨C2, k, none⟩ = some (.int .u8 y)) := hid (by
        rw [(DX.out wr HK.out).cell k, List.getElem?_append_left (by rw [List.length_map, HN2.out]; exact hlt), List.getElem?_map, List.getElem?_eq_getElem (by rw [HN2.out]; exact hlt), Option.map_some]
        rw [List.getElem?_eq_getElem (by rw [HN2.out]; exact hlt), Option.getD_some] at hy
        rw [hy])
      obtain ⟨zo, hzo⟩ : ∃ x, bits .or .u8 z y = x := ⟨_, rfl⟩
      have ZO := hid hzo
      unfold maxLen at h4
      have BD : Hid (k < n ∧ n ≤ cpk ∧ n ≤ 1024) := hid ⟨hlt, h3, HSZ.out.2⟩
      have HZO : Hid (0 ≤ zo ∧ zo < 256) := hid (by rw [← hzo]; exact or8_rng z y)
      have HN1 : Hid (orK zs ys (k + 1) = zk.set k zo) := hid (by rw [orK, hzk, hz, hy, hzo])
      have hc2 := HC2.out
      have ca := CY.out
      have d1 : decide ((k : Int) < (n : Int)) = true := decide_eq_true (by omega)
      clear h1 h2 h3 h4 hzk hz hy hzo
      have ha := BD.out
      have c1 := H1k.out.cell 0
      simp only [List.getElem?_cons_zero] at c1
      have c2 := CZ.out
      have e1 := ZO.out
      have hil : k < (zk.map (Value.int .u8) ++ restk).length := by rw [List.length_append, List.length_map, HZL.out]; omega
      have st := store_u8 H2k.out hil zo
      have fz := H2k.out.frozen k
      have HA3 : Hid (FlAt (wr.setCell ⟨g, k, none⟩ (.int .u8 zo)) Bn g (orK zs ys (k + 1))) := hid (by
        rw [HN1.out]
        exact FlAt.set HFk.out k zo (by rw [HZL.out]; exact BD.out.1) HZO.out)
      have HK3 := hid (HK.out.set k (.int .u8 zo))
      go_wp2_with fail
      exact ⟨⟨k + 1, by rw [HN2.out]; omega, by go_num, HA3, HK3⟩, by simp [intOf]; omega⟩
    · obtain rfl : k = n := by have := HN2.out; omega
      have HR : Hid (FlAt wr Bn g (orL zs ys)) := hid (by unfold orL; rw [HN2.out]; exact HA.out)
      have KR : Hid (Kp Nb w wr) := hid (K2.out.trans HK.out (fun i hi h => by have h' : i = g := h; have := LG.out; omega))
      have d1 : decide ((k : Int) < (k : Int)) = false := decide_eq_false (by omega)
      clear HA HK
      go_wp2
      go_ret2
      exact ⟨Bn, g, rfl, HR.out, LG.out.2.1, LG.out.1, KR.out⟩

end Go.Proofs.Ytpgiinogfmhfiaa

namespace Go.Proofs.Ytpgiinogfmhfiaa
open Go.RowKit

theorem orK_get {zs ys : List Int} (hl : zs.length = ys.length) (i : Nat) : ∀ k, k ≤ ys.length → (orK zs ys k)[i]?.getD 0 = if i < k then bits .or .u8 (zs[i]?.getD 0) (ys[i]?.getD 0) else zs[i]?.getD 0
  | 0, _ => by simp [orK]
  | k + 1, hk => by
    have ih := orK_get hl i k (by omega)
    unfold orK
    by_cases e : k = i
    · subst e
      rw [List.getElem?_set_self (by rw [orK_len]; omega), Option.getD_some, ih, if_neg (by omega), if_pos (by omega)]
    · rw [List.getElem?_set_ne e, ih]
      by_cases h : i < k
      · rw [if_pos h, if_pos (by omega)]
      · rw [if_neg h, if_neg (by omega)]
theorem orL_len (zs ys : List Int) : (orL zs ys).length = zs.length := orK_len zs ys _
theorem orL_get {zs ys : List Int} (hl : zs.length = ys.length) (hz : IsBytes zs) (hy : IsBytes ys) (i : Nat) : (orL zs ys)[i]?.getD 0 = (((zs[i]?.getD 0).toNat ||| (ys[i]?.getD 0).toNat : Nat) : Int) := by
  unfold orL
  rw [orK_get hl i _ (Nat.le_refl _)]
  by_cases h : i < ys.length
  · rw [if_pos h, or8_nat _ _ (hz i) (hy i)]
  · rw [if_neg h, List.getElem?_eq_none (by omega), List.getElem?_eq_none (by omega)]
    rfl
theorem orL_bytes {zs ys : List Int} (hl : zs.length = ys.length) (hz : IsBytes zs) (hy : IsBytes ys) : IsBytes (orL zs ys) := fun i => by
  rw [orL_get hl hz hy]
  have h1 := hz i
  have h2 := hy i
  have h3 : (zs[i]?.getD 0).toNat ||| (ys[i]?.getD 0).toNat < 2 ^ 8 := Nat.or_lt_two_pow (by omega) (by omega)
  omega
theorem has_orL {zs ys : List Int} (hl : zs.length = ys.length) (hz : IsBytes zs) (hy : IsBytes ys) (q : Nat) : hasB (orL zs ys) q = (hasB zs q || hasB ys q) := by
  unfold hasB
  rw [orL_get hl hz hy, Int.toNat_natCast, Nat.testBit_or]
theorem may_orL {zs ys : List Int} (hl : zs.length = ys.length) (hz : IsBytes zs) (hy : IsBytes ys) (m : List Int) (h : mayB zs m = true ∨ mayB ys m = true) : mayB (orL zs ys) m = true := by
  rw [mayB_iff (orL_bytes hl hz hy), orL_len]
  intro i hi
  rw [has_orL hl hz hy]
  rcases h with h | h
  · rw [(mayB_iff hz m).1 h i hi]; rfl
  · rw [mayB_iff hy m, ← hl] at h
    rw [h i hi, Bool.or_true]

end Go.Proofs.Ytpgiinogfmhfiaa

namespace Go.Proofs.Ytpgiinogfmhfiaa
open Go.RowKit

theorem union_add {zs : List Int} (hz : IsBytes zs) (h0 : 0 < zs.length) (m : List Int) : orL zs (addL (zerosL zs.length) m) = addL zs m := by
  have hl : (zerosL zs.length).length = zs.length := List.length_replicate
  have hb := addL_bytes (zerosL_bytes zs.length) m
  have he : zs.length = (addL (zerosL zs.length) m).length := by rw [addL_length, hl]
  refine eq_of_has (orL_bytes he hz hb) (addL_bytes hz m) (by rw [orL_len, addL_length]) (fun q => ?_)
  rw [has_orL he hz hb, has_addL hz m h0, has_addL (zerosL_bytes _) m (by rw [hl]; exact h0), has_zero, hl, Bool.false_or]
theorem may_adds {zs : List Int} (hz : IsBytes zs) (h0 : 0 < zs.length) (l : List (List Int)) (m : List Int) (hm : m ∈ l) : mayB (addsL zs l) m = true := by
  rw [mayB_iff (addsL_bytes hz l), addsL_len]
  intro i hi
  rw [has_adds hz h0]
  have : (l.any fun m' => plcB ((8 * zs.length : Nat) : Int) m' (plb ((8 * zs.length : Nat) : Int) m i)) = true := by
    rw [List.any_eq_true]
    refine ⟨m, hm, ?_⟩
    unfold plcB
    rw [List.any_eq_true]
    exact ⟨i, List.mem_range.2 hi, by simp⟩
  rw [this, Bool.or_true]
theorem may_more {zs : List Int} (hz : IsBytes zs) (h0 : 0 < zs.length) (x m : List Int) (h : mayB zs m = true) : mayB (addL zs x) m = true := by
  rw [mayB_iff (addL_bytes hz x), addL_length]
  intro i hi
  rw [has_addL hz x h0, (mayB_iff hz m).1 h i hi]
  rfl
theorem pop_up : ∀ (n : Fin 256) (e : Fin 8), Lib.onesCount n.val ≤ Lib.onesCount (n.val ||| 2 ^ e.val) := by decide +kernel
theorem cnt_up {zs : List Int} (hz : IsBytes zs) (p : Nat) (hp : p < 8 * zs.length) : cntB zs ≤ cntB (setB zs p) := by
  have h := fold_set (fun z => Lib.onesCount z.toNat) zs (p / 8) (bits .or .u8 (zs[p / 8]?.getD 0) (2 ^ (p % 8))) (by omega)
  have hr := hz (p / 8)
  have hpw := pow8_rng (p % 8) (Nat.mod_lt _ (by decide))
  have e2 : ((2 : Int) ^ (p % 8)).toNat = 2 ^ (p % 8) := by
    have : ((2 : Int) ^ (p % 8)) = ((2 ^ (p % 8) : Nat) : Int) := by simp
    rw [this, Int.toNat_natCast]
  have h3 := pop_up ⟨(zs[p / 8]?.getD 0).toNat, by omega⟩ ⟨p % 8, Nat.mod_lt _ (by decide)⟩
  dsimp only at h h3
  rw [or8_nat _ _ hr (by omega), Int.toNat_natCast, e2] at h
  unfold cntB setB
  rw [or8_nat _ _ hr (by omega), e2]
  generalize Lib.onesCount ((zs[p / 8]?.getD 0).toNat ||| 2 ^ (p % 8)) = u at h h3
  generalize Lib.onesCount (zs[p / 8]?.getD 0).toNat = v at h h3
  omega
theorem cnt_addUp {zs : List Int} (hz : IsBytes zs) (m : List Int) (h0 : 0 < zs.length) : ∀ k, cntB zs ≤ cntB (addK zs m ((8 * zs.length : Nat) : Int) k)
  | 0 => Nat.le_refl _
  | k + 1 => by
    have hp := plb_lt ((8 * zs.length : Nat) : Int) m k (by omega)
    rw [addK_succ]
    exact Nat.le_trans (cnt_addUp hz m h0 k) (cnt_up (addK_bytes hz m ((8 * zs.length : Nat) : Int) k) (plb ((8 * zs.length : Nat) : Int) m k) (by rw [addK_length]; omega))
theorem cnt_add_ge {zs : List Int} (hz : IsBytes zs) (m : List Int) (h0 : 0 < zs.length) : cntB zs ≤ cntB (addL zs m) := cnt_addUp hz m h0 4
theorem cnt_add_le {zs : List Int} (hz : IsBytes zs) (m : List Int) (h0 : 0 < zs.length) : cntB (addL zs m) ≤ cntB zs + 4 := cnt_addK hz m h0 4
theorem lack_not {zs : List Int} (hz : IsBytes zs) (h0 : 0 < zs.length) (l mt : List (List Int)) (x : Nat) (h : x ∈ lackT (addsL zs l) mt mt.length) : x < mt.length ∧ markAt mt x ∉ l := by
  unfold lackT at h
  rw [List.mem_filter] at h
  refine ⟨List.mem_range.1 h.1, fun hm => ?_⟩
  have h2 := h.2
  rw [may_adds hz h0 l _ hm] at h2
  cases h2

end Go.Proofs.Ytpgiinogfmhfiaa

namespace Go.Proofs.Ytpgiinogfmhfiaa
open Go.RowKit

theorem wpList_load_on' {P : Program} {d : TypeDesc} {ops : Array Oper} {rest : List Oper} {op : Oper} {a : Act} {w : World} {Q : Exit → Act → World → Prop} (hw : Region.wanted op (yielded ops a.tmps) = true) (ty : TypeId) (x : Operand) (ho : op.op = .load ty x)
    (b o : Nat) (hx : a.eval x = .pointer (some ⟨b, o, none⟩)) (cs : List Value) (hc : w.rangeAt b o cs) (hu : P.underlying ty = some d) (hd : d.isRow = true) (hi : (P.info? ty).map (·.size) = some cs.length)
    (h : wpList P ops Q rest (a.put op.dst (.agg cs.toArray)) w) : wpList P ops Q (op :: rest) a w :=
  wpList_step fun K hK => by rw [if_pos hw]; exact wp_load_mid ty x ho b o hx cs d hc hu hd hi (hK _ _ h)
def HoR (wA : World) (B1 C1 : Nat) (zs : List Int) (ms : List (List Int)) (N : Nat) (i : Value) (wr : World) : Prop := ∃ k : Nat, k ≤ N ∧ i = .int .i64 k ∧ Hid (FlAt wr B1 C1 (addsL zs (ms.take k))) ∧ Hid (Kp (Jb C1) wA wr)
def HpR (wA : World) (N : Nat) (i : Value) (wr : World) : Prop := ∃ k : Nat, k ≤ N ∧ i = .int .i64 k ∧ Hid (Kp Nb wA wr)
/-- What a mark that is laid into a fresh block leaves. -/
theorem fresh_mark {wr W5 : World} {M5 : Nat} (x : List Int) (hx : x.length = 16) (h1 : wr.heap.size = M5) (h2 : W5 = (wr.alloc (.cells #[.int .u8 0, .int .u8 0, .int .u8 0, .int .u8 0, .int .u8 0, .int .u8 0, .int .u8 0, .int .u8 0, .int .u8 0, .int .u8 0, .int .u8 0, .int .u8 0, .int .u8 0, .int .u8 0, .int .u8 0, .int .u8 0] 24)).setCells M5 0 (markL x)) :
    Blk W5 M5 24 (markL x) ∧ Kp Nb wr W5 ∧ (wr.alloc (.cells #[.int .u8 0, .int .u8 0, .int .u8 0, .int .u8 0, .int .u8 0, .int .u8 0, .int .u8 0, .int .u8 0, .int .u8 0, .int .u8 0, .int .u8 0, .int .u8 0, .int .u8 0, .int .u8 0, .int .u8 0, .int .u8 0] 24)).there M5 0 (markL x).toArray.size := by
  have hb0 : Blk (wr.alloc (.cells #[.int .u8 0, .int .u8 0, .int .u8 0, .int .u8 0, .int .u8 0, .int .u8 0, .int .u8 0, .int .u8 0, .int .u8 0, .int .u8 0, .int .u8 0, .int .u8 0, .int .u8 0, .int .u8 0, .int .u8 0, .int .u8 0] 24)) wr.heap.size 24 (markL z16) := Blk.new wr 24 (markL z16)
  rw [h1] at hb0
  refine ⟨by rw [h2]; exact row_set hb0 (by rw [markL_length, hx]; rfl), by rw [h2]; exact Kp.setCells (fun h => by omega) _ _ _ ((Kp.refl Nb wr).alloc _), by rw [List.size_toArray, markL_length, hx]; exact hb0.there 0 16 (Nat.le_refl _)⟩
theorem mark_at {w : World} {D : Nat} {T : TypeId} {cs : List Value} {m : List Int} (h : Blk w D T cs) (hc : (cs.drop 4).take 16 = markL m) : w.rangeAt D 4 (markL m) := fun j v hv => by
  rw [← hc] at hv
  rw [h.cell (4 + j)]
  rw [List.getElem?_take] at hv
  split at hv
  · rwa [List.getElem?_drop] at hv
  · cases hv

set_option maxRecDepth 100000 in
set_option maxHeartbeats 16000000 in
theorem lholds_any (cs : List Value) (n : Int) (vA vB : Value) (ms mt : List (List Int)) (mm : List Int) (w : World) (hc0 : cs[0]? = some (.int .i64 n)) (hc2 : cs[2]? = some vA) (hc3 : cs[3]? = some vB) (hcm : (cs.drop 4).take 16 = markL mm) (hmm : MarkOk mm) (hA : MkSl w vA ms) (hB : MkSl w vB mt) (hn : -9223372036854775808 ≤ n ∧ n < 9223372036854775808) :
    Calls Try.prog 5 #[.agg cs.toArray] w fun e w' => e = .returned (.bool true) ∧ Kp Nb w w' := by
  obtain ⟨yA, dA, rfl⟩ := hA.shape
  obtain ⟨yB, dB, rfl⟩ := hB.shape
  obtain ⟨N, hN⟩ : ∃ N, ms.length = N := ⟨_, rfl⟩
  obtain ⟨Nt, hNt⟩ : ∃ N, mt.length = N := ⟨_, rfl⟩
  rw [hN] at hc2 hA
  rw [hNt] at hc3 hB
  have HNM := hid hN
  have HNT := hid hNt
  have HNR := hid hn
  obtain ⟨D, hD⟩ : ∃ D, w.heap.size = D := ⟨_, rfl⟩
  obtain ⟨W, hW⟩ : ∃ W, W = w.alloc (.cells cs.toArray 27) := ⟨_, rfl⟩
  have H0 : Hid (Blk W D 27 cs) := hid (by rw [hW, ← hD]; exact Blk.new w _ _)
  have k0 : Kp Nb w W := by rw [hW]; exact (Kp.refl Nb w).alloc _
  have K0 := hid k0
  have HA0 := hid (hA.kept k0)
  have HB0 := hid (hB.kept k0)
  have HC0 := hid hc0
  have HC2 := hid hc2
  have HC3 := hid hc3
  have HCM := hid hcm
  have OM := hid hmm
  have MM := hid (mark_infoL mm hmm.len)
  clear hA hB k0 hN hNt hn hc0 hc2 hc3 hcm hmm
  go_enter Try.func5, Try.ntmps5
  go_upto_region 1 with fail
  rw [show w.alloc (.cells cs.toArray 27) = W from hW.symm]
  clear hW hD
  go_wp2_with fail
  refine (lfirst_any _).mono ?_
  rintro e w1 ⟨rfl, k1⟩
  have H1 := hid (H0.out.kept k1 (fun h => h))
  have HA1 := hid (HA0.out.kept k1)
  have HB1 := hid (HB0.out.kept k1)
  have K1 := hid (K0.out.trans k1 (fun _ _ h => h))
  have c0 : w1.cell? ⟨D, 0, none⟩ = some (.int .i64 n) := (H1.out.cell 0).trans HC0.out
  have c2 : w1.cell? ⟨D, 2, none⟩ = some (.slice yA N dA) := (H1.out.cell 2).trans HC2.out
  have c3 : w1.cell? ⟨D, 3, none⟩ = some (.slice yB Nt dB) := (H1.out.cell 3).trans HC3.out
  clear k1 H0 HA0 HB0 K0
  by_cases hl : 60 < N
  · have d1 : decide ((N : Int) > 60) = true := decide_eq_true (by omega)
    go_wp2
    go_ret
    exact ⟨rfl, K1.out⟩
  have d1 : decide ((N : Int) > 60) = false := decide_eq_false (by omega)
  have HN60 : Hid (N ≤ 60) := hid (by omega)
  clear hl
  by_cases hl : 60 < Nt
  · have d2 : decide ((Nt : Int) > 60) = true := decide_eq_true (by omega)
    go_wp2
    go_ret
    exact ⟨rfl, K1.out⟩
  have d2 : decide ((Nt : Int) > 60) = false := decide_eq_false (by omega)
  have HNT60 : Hid (Nt ≤ 60) := hid (by omega)
  clear hl
  cases hf : fitL n
  · have CN : Hid (∀ w, Calls Try.prog 8 #[.int .i64 n] w fun e w' => e = .returned (.tuple #[.pointer none, .int .i64 2]) ∧ w = w') := hid (fun w => lnew_no n w HNR.out.1 HNR.out.2 hf)
    clear hf
    go_wp2_with fail
    refine (CN.out _).mono ?_
    rintro e w2 ⟨rfl, rfl⟩
    go_wp2
    go_ret
    exact ⟨rfl, K1.out⟩
  obtain ⟨t, rfl, t0, t1⟩ := fitL_t hf
  have CN : Hid (∀ w, Calls Try.prog 8 #[.int .i64 ((8 * t : Nat) : Int)] w fun e w' => ∃ B C, e = .returned (.tuple #[.pointer (some ⟨B, 0, none⟩), .int .i64 0]) ∧ FlAt w' B C (zerosL t) ∧ w.heap.size ≤ B ∧ w.heap.size ≤ C ∧ Kp Nb w w') := hid (fun w => lnew_yes t w t0 t1)
  have HT : Hid (8 ≤ t ∧ t ≤ 1024) := hid ⟨t0, t1⟩
  clear hf t0 t1
  go_wp2_with fail
  refine (CN.out _).mono ?_
  rintro e w2 ⟨B1, C1, rfl, f1, l1, l2, k2⟩
  have F1 := hid f1
  have H2 := hid (H1.out.kept k2 (fun h => h))
  have K12 := hid k2
  have L1 := hid (show w1.heap.size ≤ B1 ∧ w1.heap.size ≤ C1 ∧ B1 < w2.heap.size ∧ C1 < w2.heap.size ∧ D < w1.heap.size from ⟨l1, l2, f1.lt.1, f1.lt.2, H1.out.lt⟩)
  have c0 : w2.cell? ⟨D, 0, none⟩ = some (.int .i64 ((8 * t : Nat) : Int)) := (H2.out.cell 0).trans HC0.out
  clear f1 l1 l2 k2 c2 c3 d1 d2
  go_wp2_with fail
  refine (CN.out _).mono ?_
  rintro e w3 ⟨B2, C2, rfl, f2, l1, l2, k3⟩
  have F1' := hid (F1.out.kept k3 (fun h => h) (fun h => h))
  have F2 := hid f2
  have H3 := hid (H2.out.kept k3 (fun h => h))
  have K13 : Hid (Kp Nb w1 w3) := hid (K12.out.trans k3 (fun _ _ h => h))
  have L2 := hid (show w2.heap.size ≤ B2 ∧ w2.heap.size ≤ C2 from ⟨l1, l2⟩)
  have HA3 := hid (HA1.out.kept K13.out)
  have HB3 := hid (HB1.out.kept K13.out)
  have c2 : w3.cell? ⟨D, 2, none⟩ = some (.slice yA N dA) := (H3.out.cell 2).trans HC2.out
  obtain ⟨zs, hzs⟩ : ∃ z, zerosL t = z := ⟨_, rfl⟩
  rw [hzs] at F1' F2
  have HZS := hid hzs
  have HZB : Hid (IsBytes zs) := hid F2.out.ok
  have HZL : Hid (zs.length = t) := hid (by rw [← hzs]; exact List.length_replicate)
  have S0 : Hid (FlAt w3 B1 C1 (addsL zs (ms.take 0))) := hid (by rw [List.take_zero]; exact F1'.out)
  have T0 : Hid (Kp (Jb C1) w3 w3) := hid (Kp.refl _ _)
  have LL : Hid (B1 ≠ C2 ∧ C1 ≠ C2 ∧ C1 ≠ B2) := hid (by have := L1.out; have := L2.out; omega)
  have T13 : Hid (∀ i, i < w1.heap.size → ¬ Jb C1 i ∧ ¬ Jb C2 i) := hid (fun i hi => by have := L1.out; have := L2.out; unfold Jb; omega)
  have W13 : Hid (w1.heap.size ≤ w3.heap.size ∧ w.heap.size ≤ w1.heap.size) := hid ⟨K13.out.size, K1.out.size⟩
  clear hzs f2 l1 l2 k3 F1 c0 H2 K12 CN F1'
  go_wp2
  go_loopw [46] (HoR w3 B1 C1 zs ms N) (fun i _ => N - (intOf i).toNat)
  case atStart => exact ⟨0, Nat.zero_le _, rfl, S0, T0⟩
  case round =>
    clear S0 T0
    obtain ⟨k, hk, rfl, HO, KO⟩ := hrel
    have TJ : Hid (∀ i, i < w1.heap.size → ¬ Jb C1 i) := hid (fun i hi => (T13.out i hi).1)
    by_cases hlt : k < N
    · rcases HA1.out.2 with ⟨_, e0⟩ | ⟨blk, off, cap, e1, hc, hm, hcell⟩
      · have := HNM.out; rw [e0] at this; simp at this; omega
      injection e1 with e1 e7 e2
      subst e1 e2
      clear e7
      rw [HNM.out] at hc
      unfold maxLen at hm
      have R1 := hid (hcell k (by rw [HNM.out]; exact hlt))
      have OX := hid (HA1.out.1 k)
      have HX1 : Hid (addsL zs (ms.take (k + 1)) = addL (addsL zs (ms.take k)) (markAt ms k)) := hid (by
        have hkl : k < ms.length := by rw [HNM.out]; exact hlt
        rw [List.take_succ_eq_append_getElem hkl, addsL_snoc]
        unfold markAt
        rw [List.getElem?_eq_getElem hkl]
        rfl)
      generalize markAt ms k = x at R1 OX HX1
      have MX := hid (mark_infoL x OX.out.len)
      obtain ⟨M5, hM5⟩ : ∃ N, wr.heap.size = N := ⟨_, rfl⟩
      obtain ⟨W5, hW5⟩ : ∃ W, W = (wr.alloc (.cells #[.int .u8 0, .int .u8 0, .int .u8 0, .int .u8 0, .int .u8 0, .int .u8 0, .int .u8 0, .int .u8 0, .int .u8 0, .int .u8 0, .int .u8 0, .int .u8 0, .int .u8 0, .int .u8 0, .int .u8 0, .int .u8 0] 24)).setCells M5 0 (markL x) := ⟨_, rfl⟩
      obtain ⟨d5, k5, th⟩ := fresh_mark x OX.out.len hM5 hW5
      have D5 := hid d5
      have TH := hid th
      have SI : Hid ((Try.prog.info? 24).map (·.size) = some (markL x).toArray.size) := hid (by rw [List.size_toArray]; exact mark_infoL x OX.out.len)
      have ON : Hid ((markL x).toArray.all (·.oneCell') = true) := hid (all_oneCell_toArray (markL_one' x))
      have F15 := hid (HO.out.kept k5 (fun h => h) (fun h => h))
      have K5 : Hid (Kp (Jb C1) w3 W5) := hid (KO.out.trans k5 (fun _ _ h => h.elim))
      have R1r := hid (rng_keptT R1.out ((K13.out.mono (fun _ _ h => h.elim)).trans KO.out (fun _ _ h => h)) (fun i hi => TJ.out i hi))
      have HLT := hid hlt
      clear hcell k5 HO d5 th
      go_upto_region 12 with (first
          | (refine wpList_load_mid (by rfl) 24 (.tmp 48) (by rfl) blk (off + k * 16) (by rfl) (markL x) _ R1r.out under_mark rfl MX.out ?_)
          | (refine wpList_store_mid (by rfl) 24 (.tmp 8) (.tmp 49) (by rfl) M5 0 (markL x).toArray (by rfl) (by rfl) TH.out SI.out ON.out ?_))
      rw [show (wr.alloc (.cells #[.int .u8 0, .int .u8 0, .int .u8 0, .int .u8 0, .int .u8 0, .int .u8 0, .int .u8 0, .int .u8 0, .int .u8 0, .int .u8 0, .int .u8 0, .int .u8 0, .int .u8 0, .int .u8 0, .int .u8 0, .int .u8 0] 24)).setCells M5 0 (markL x) = W5 from hW5.symm]
      clear hW5 hM5
      have D5r := hid (range_of D5.out)
      go_wp2_with (refine wpList_load_mid (by rfl) 24 (.tmp 8) (by rfl) M5 0 (by rfl) (markL x) _ D5r.out under_mark rfl MX.out ?_)
      refine (ladd_any B1 C1 _ x _ F15.out OX.out).mono ?_
      rintro e w6 ⟨rfl, f6, k6⟩
      have F16 : Hid (FlAt w6 B1 C1 (addsL zs (ms.take (k + 1)))) := hid (by rw [HX1.out]; exact f6)
      have K6 : Hid (Kp (Jb C1) w3 w6) := hid (K5.out.trans k6 (fun _ _ h => h))
      clear f6 k6 F15 K5 D5 D5r
      go_wp2
      go_roundw
      case rel => exact ⟨k + 1, HLT.out, by go_num, F16, K6⟩
      case measure => have := HLT.out; simp [intOf]; omega
    · obtain rfl : k = N := by omega
      have htk : ms.take k = ms := List.take_of_length_le (by rw [HNM.out]; exact Nat.le_refl _)
      have h0 : 0 < zs.length := by rw [HZL.out]; have := HT.out; omega
      have HFR := HO.out
      rw [htk] at HFR
      obtain ⟨X, hX⟩ : ∃ x, addsL zs ms = x := ⟨_, rfl⟩
      rw [hX] at HFR
      have HF1 := hid HFR
      have HXL : Hid (X.length = t) := hid (by rw [← hX, addsL_len]; exact HZL.out)
      have HXB : Hid (IsBytes X) := hid HFR.ok
      have HXM : Hid (∀ m ∈ ms, mayB X m = true) := hid (fun m hm => by rw [← hX]; exact may_adds HZB.out h0 ms m hm)
      have HXN : Hid (∀ x ∈ lackT X mt mt.length, x < mt.length ∧ markAt mt x ∉ ms) := hid (fun x hx => by rw [← hX] at hx; exact lack_not HZB.out h0 ms mt x hx)
      have HY1 : Hid (orL X (addL zs mm) = addL X mm) := hid (by
        have hx0 : 0 < X.length := by rw [HXL.out]; have := HT.out; omega
        have h := union_add HXB.out hx0 mm
        rw [HXL.out, HZS.out] at h
        exact h)
      obtain ⟨U, hU⟩ : ∃ u, addL X mm = u := ⟨_, rfl⟩
      have HUM : Hid ((∀ m ∈ ms, mayB U m = true) ∧ mayB U mm = true ∧ cntB X ≤ cntB U ∧ cntB U ≤ cntB X + 4 ∧ cntB X ≤ 8 * t) := hid (by
        have hx0 : 0 < X.length := by rw [HXL.out]; have := HT.out; omega
        have h3 := cntB_le X HXB.out X.length (Nat.le_refl _)
        rw [List.take_length, HXL.out] at h3
        rw [← hU]
        exact ⟨fun m hm => may_more HXB.out hx0 mm m (HXM.out m hm), may_add HXB.out mm hx0, cnt_add_ge HXB.out mm hx0, cnt_add_le HXB.out mm hx0, h3⟩)
      rw [hU] at HY1
      clear htk h0 HFR hX hU HO
      have F2r := hid (F2.out.kept KO.out (fun h => LL.out.2.2 h.symm) (fun h => LL.out.2.1 h.symm))
      have K1r : Hid (Kp (Jb C1) w1 wr) := hid ((K13.out.mono (fun _ _ h => h.elim)).trans KO.out (fun _ _ h => h))
      have H4 := hid (H1.out.kept K1r.out (TJ.out D L1.out.2.2.2.2))
      have RM := hid (mark_at H4.out HCM.out)
      clear KO c2
      go_wp2_with (refine wpList_load_mid (by rfl) 24 (.tmp 55) (by rfl) D 4 (by rfl) (markL mm) _ RM.out under_mark rfl MM.out ?_)
      refine (ladd_any B2 C2 _ mm _ F2r.out OM.out).mono ?_
      rintro e w4 ⟨rfl, f4, k4⟩
      have F24 := hid f4
      have F14 := hid (HF1.out.kept k4 (fun h => LL.out.1 h) (fun h => LL.out.2.1 h))
      have K14 : Hid (Kp (fun b => b = C1 ∨ b = C2) w1 w4) := hid ((K1r.out.mono (fun _ _ h => Or.inl h)).trans k4 (fun _ _ h => Or.inr h))
      clear f4 k4 F2r HF1 K1r H4 RM
      go_wp2_with fail
      refine (lunion_yes B1 C1 B2 C2 X (addL zs mm) _ F14.out F24.out (by rw [HXL.out, addL_length, HZL.out])).mono ?_
      rintro e w5 ⟨B3, C3, rfl, f5, l1, l2, k5⟩
      have F35 : Hid (FlAt w5 B3 C3 U) := hid (by rw [← HY1.out]; exact f5)
      have F15 := hid (F14.out.kept k5 (fun h => h) (fun h => h))
      have K15 : Hid (Kp (fun b => b = C1 ∨ b = C2) w1 w5) := hid (K14.out.trans k5 (fun _ _ h => h.elim))
      have TC : Hid (∀ i, i < w1.heap.size → ¬ (i = C1 ∨ i = C2)) := hid (fun i hi h => by have := T13.out i hi; unfold Jb at this; omega)
      have KW5 : Hid (Kp Nb w w5) := hid (K1.out.trans K15.out (fun i hi h => TC.out i (Nat.lt_of_lt_of_le hi W13.out.2) h))
      have H5 := hid (H1.out.kept K15.out (TC.out D L1.out.2.2.2.2))
      have HA5 := hid (HA1.out.keptT K15.out TC.out)
      have HB5 := hid (HB1.out.keptT K15.out TC.out)
      have c2 : w5.cell? ⟨D, 2, none⟩ = some (.slice yA k dA) := (H5.out.cell 2).trans HC2.out
      have T0 : Hid (Kp Nb w5 w5) := hid (Kp.refl _ _)
      clear f5 l1 l2 k5 F14 F24 K14 K15 F2 H3 HA3 HB3
      go_wp2
      go_loopw [67] (HpR w5 k) (fun i _ => k - (intOf i).toNat)
      case atStart => exact ⟨0, Nat.zero_le _, rfl, T0⟩
      case round =>
        clear T0
        obtain ⟨j, hj, rfl, KO⟩ := hrel
        by_cases hlt : j < k
        · rcases HA5.out.2 with ⟨_, e0⟩ | ⟨blk, off, cap, e1, hc, hm, hcell⟩
          · have := HNM.out; rw [e0] at this; simp at this; omega
          injection e1 with e1 e7 e2
          subst e1 e2
          clear e7
          rw [HNM.out] at hc
          unfold maxLen at hm
          have R1r := hid (range_kept (hcell j (by rw [HNM.out]; exact hlt)) KO.out)
          have OX := hid (HA5.out.1 j)
          have MY : Hid (mayB X (markAt ms j) = true ∧ mayB U (markAt ms j) = true) := hid (by
            have h : markAt ms j ∈ ms := markAt_mem (by rw [HNM.out]; exact hlt)
            exact ⟨HXM.out _ h, HUM.out.1 _ h⟩)
          generalize markAt ms j = x at R1r OX MY
          have MX := hid (mark_infoL x OX.out.len)
          obtain ⟨M5, hM5⟩ : ∃ N, wr.heap.size = N := ⟨_, rfl⟩
          obtain ⟨W5, hW5⟩ : ∃ W, W = (wr.alloc (.cells #[.int .u8 0, .int .u8 0, .int .u8 0, .int .u8 0, .int .u8 0, .int .u8 0, .int .u8 0, .int .u8 0, .int .u8 0, .int .u8 0, .int .u8 0, .int .u8 0, .int .u8 0, .int .u8 0, .int .u8 0, .int .u8 0] 24)).setCells M5 0 (markL x) := ⟨_, rfl⟩
          obtain ⟨d5, k5, th⟩ := fresh_mark x OX.out.len hM5 hW5
          have D5 := hid d5
          have TH := hid th
          have SI : Hid ((Try.prog.info? 24).map (·.size) = some (markL x).toArray.size) := hid (by rw [List.size_toArray]; exact mark_infoL x OX.out.len)
          have ON : Hid ((markL x).toArray.all (·.oneCell') = true) := hid (all_oneCell_toArray (markL_one' x))
          have K5 : Hid (Kp Nb w5 W5) := hid (KO.out.trans k5 (fun _ _ h => h))
          have HLT := hid hlt
          clear hcell k5 KO d5 th
          go_upto_region 19 with (first
          | (refine wpList_load_mid (by rfl) 24 (.tmp 69) (by rfl) blk (off + j * 16) (by rfl) (markL x) _ R1r.out under_mark rfl MX.out ?_)
          | (refine wpList_store_mid (by rfl) 24 (.tmp 12) (.tmp 70) (by rfl) M5 0 (markL x).toArray (by rfl) (by rfl) TH.out SI.out ON.out ?_))
          rw [show (wr.alloc (.cells #[.int .u8 0, .int .u8 0, .int .u8 0, .int .u8 0, .int .u8 0, .int .u8 0, .int .u8 0, .int .u8 0, .int .u8 0, .int .u8 0, .int .u8 0, .int .u8 0, .int .u8 0, .int .u8 0, .int .u8 0, .int .u8 0] 24)).setCells M5 0 (markL x) = W5 from hW5.symm]
          clear hW5 hM5
          have D5r := hid (range_of D5.out)
          go_wp2_with (refine wpList_load_mid (by rfl) 24 (.tmp 12) (by rfl) M5 0 (by rfl) (markL x) _ D5r.out under_mark rfl MX.out ?_)
          refine (lmay_any B1 C1 X x _ (F15.out.kept K5.out (fun h => h) (fun h => h)) OX.out).mono ?_
          rw [MY.out.1]
          rintro e w6 ⟨rfl, k6⟩
          have K6 : Hid (Kp Nb w5 w6) := hid (K5.out.trans k6 (fun _ _ h => h))
          have D6r := hid (range_of (D5.out.kept k6 (fun h => h)))
          clear k6 K5 D5 D5r
          go_wp2_with (refine wpList_load_on' (by first | rfl | kernel_rfl) 24 (.tmp 12) (by rfl) M5 0 (by rfl) (markL x) D6r.out under_mark rfl MX.out ?_)
          refine (lmay_any B3 C3 U x _ (F35.out.kept K6.out (fun h => h) (fun h => h)) OX.out).mono ?_
          rw [MY.out.2]
          rintro e w7 ⟨rfl, k7⟩
          have K7 : Hid (Kp Nb w5 w7) := hid (K6.out.trans k7 (fun _ _ h => h))
          clear k7 K6 D6r
          go_wp2
          go_roundw
          case rel => exact ⟨j + 1, HLT.out, by go_num, K7⟩
          case measure => have := HLT.out; simp [intOf]; omega
        · obtain rfl : j = k := by omega
          have H6 := hid (H5.out.kept KO.out (fun h => h))
          have F16 := hid (F15.out.kept KO.out (fun h => h) (fun h => h))
          have HB6 := hid (HB5.out.kept KO.out)
          have K6 := hid KO.out
          have c3 : wr.cell? ⟨D, 3, none⟩ = some (.slice yB Nt dB) := (H6.out.cell 3).trans HC3.out
          clear KO c2
          go_wp2_with fail
          refine (lacks_rows B1 C1 _ X mt 99 _ F16.out HB6.out (by rw [HNT.out]; have := HNT60.out; omega)).mono ?_
          rintro e w7 ⟨v1, v2, xs, rfl, hxs, -, r2, k7⟩
          have HXS : Hid (∀ i, i < xs.length → markAt mt (xs[i]?.getD mt.length) ∉ ms) := hid (fun i hi => by
            rw [List.getElem?_eq_getElem hi, Option.getD_some]
            have h : xs[i] ∈ (lackT X mt mt.length).take (99 : Int).toNat := hxs ▸ List.getElem_mem hi
            exact (HXN.out _ (List.mem_of_mem_take h)).2)
          obtain ⟨y2, d2, rfl⟩ := r2.shape
          have R2 := hid r2
          have K7 : Hid (Kp Nb w5 w7) := hid (K6.out.trans k7 (fun _ _ h => h))
          have T7 : Hid (Kp Nb w7 w7) := hid (Kp.refl _ _)
          obtain ⟨q, hq⟩ : ∃ q, xs.length = q := ⟨_, rfl⟩
          have HQ := hid hq
          have HA7 := hid (HA5.out.kept K7.out)
          have H7 := hid (H5.out.kept K7.out (fun h => h))
          have hq9 : q ≤ 99 := by rw [← hq, hxs, List.length_take]; exact Nat.min_le_left _ _
          rw [hq]
          clear hxs r2 k7 c3 K6 H6 F16 HB6 hq
          go_wp2
          go_loopw [91] (HpR w7 q) (fun i _ => q - (intOf i).toNat)
          case atStart => exact ⟨0, Nat.zero_le _, rfl, T7⟩
          case round =>
            clear T7
            obtain ⟨i, hi, rfl, KO⟩ := hrel
            by_cases hlt : i < q
            · rcases R2.out with ⟨_, e0⟩ | ⟨blk, off, cap, e1, hc, hm, hcell⟩
              · have := HQ.out; rw [e0] at this; simp at this; omega
              injection e1 with e1 e7 e2
              subst e1 e2
              clear e7
              rw [HQ.out] at hc
              unfold maxLen at hm
              have R1r : Hid (wr.rangeAt blk (off + i * 16) (markL (markAt mt (xs[i]?.getD mt.length)))) := hid (range_kept (hcell i (by rw [HQ.out]; exact hlt)) KO.out)
              have OX := hid (HB5.out.1 (xs[i]?.getD mt.length))
              have MY : Hid (mhasB ms (markAt mt (xs[i]?.getD mt.length)) = false) := hid (decide_eq_false (HXS.out i (by rw [HQ.out]; exact hlt)))
              generalize markAt mt (xs[i]?.getD mt.length) = x at R1r OX MY
              have MX := hid (mark_infoL x OX.out.len)
              obtain ⟨M5, hM5⟩ : ∃ N, wr.heap.size = N := ⟨_, rfl⟩
              obtain ⟨W5, hW5⟩ : ∃ W, W = (wr.alloc (.cells #[.int .u8 0, .int .u8 0, .int .u8 0, .int .u8 0, .int .u8 0, .int .u8 0, .int .u8 0, .int .u8 0, .int .u8 0, .int .u8 0, .int .u8 0, .int .u8 0, .int .u8 0, .int .u8 0, .int .u8 0, .int .u8 0] 24)).setCells M5 0 (markL x) := ⟨_, rfl⟩
              obtain ⟨d5, k5, th⟩ := fresh_mark x OX.out.len hM5 hW5
              have D5 := hid d5
              have TH := hid th
              have SI : Hid ((Try.prog.info? 24).map (·.size) = some (markL x).toArray.size) := hid (by rw [List.size_toArray]; exact mark_infoL x OX.out.len)
              have ON : Hid ((markL x).toArray.all (·.oneCell') = true) := hid (all_oneCell_toArray (markL_one' x))
              have K5 : Hid (Kp Nb w7 W5) := hid (KO.out.trans k5 (fun _ _ h => h))
              have HLT := hid hlt
              clear hcell k5 KO d5 th
              go_upto_region 26 with (first
          | (refine wpList_load_mid (by rfl) 24 (.tmp 93) (by rfl) blk (off + i * 16) (by rfl) (markL x) _ R1r.out under_mark rfl MX.out ?_)
          | (refine wpList_store_mid (by rfl) 24 (.tmp 16) (.tmp 94) (by rfl) M5 0 (markL x).toArray (by rfl) (by rfl) TH.out SI.out ON.out ?_))
              rw [show (wr.alloc (.cells #[.int .u8 0, .int .u8 0, .int .u8 0, .int .u8 0, .int .u8 0, .int .u8 0, .int .u8 0, .int .u8 0, .int .u8 0, .int .u8 0, .int .u8 0, .int .u8 0, .int .u8 0, .int .u8 0, .int .u8 0, .int .u8 0] 24)).setCells M5 0 (markL x) = W5 from hW5.symm]
              clear hW5 hM5
              have D5r := hid (range_of D5.out)
              have c2 : W5.cell? ⟨D, 2, none⟩ = some (.slice yA j dA) := ((H7.out.kept K5.out (fun h => h)).cell 2).trans HC2.out
              go_wp2_with (refine wpList_load_mid (by rfl) 24 (.tmp 16) (by rfl) M5 0 (by rfl) (markL x) _ D5r.out under_mark rfl MX.out ?_)
              refine (rhas_any _ ms x _ (HA7.out.kept K5.out) OX.out).mono ?_
              rw [MY.out]
              rintro e w8 ⟨rfl, k8⟩
              have K8 : Hid (Kp Nb w7 w8) := hid (K5.out.trans k8 (fun _ _ h => h))
              clear k8 K5 D5 D5r c2
              go_wp2
              go_roundw
              case rel => exact ⟨i + 1, HLT.out, by go_num, K8⟩
              case measure => have := HLT.out; simp [intOf]; omega
            · obtain rfl : i = q := by omega
              have K9 : Hid (Kp Nb w5 wr) := hid (K7.out.trans KO.out (fun _ _ h => h))
              have F39 := hid (F35.out.kept K9.out (fun h => h) (fun h => h))
              have F19 := hid (F15.out.kept K9.out (fun h => h) (fun h => h))
              have RM := hid (mark_at (H7.out.kept KO.out (fun h => h)) HCM.out)
              obtain ⟨cx, hcx⟩ : ∃ c, cntB X = c := ⟨_, rfl⟩
              obtain ⟨cu, hcu⟩ : ∃ c, cntB U = c := ⟨_, rfl⟩
              have HCB : Hid (cx ≤ cu ∧ cu ≤ cx + 4 ∧ cx ≤ 8192) := hid (by have h := HUM.out; rw [hcx, hcu] at h; have := HT.out; omega)
              have CU : Hid (∀ w', Kp Nb wr w' → Calls Try.prog 16 #[.pointer (some ⟨B3, 0, none⟩)] w' fun e w'' => e = .returned (.int .i64 (cu : Int)) ∧ w' = w'') := hid (fun w' k => by rw [← hcu]; exact lcount_any B3 C3 U w' (F39.out.kept k (fun h => h) (fun h => h)))
              have CX : Hid (∀ w', Kp Nb wr w' → Calls Try.prog 16 #[.pointer (some ⟨B1, 0, none⟩)] w' fun e w'' => e = .returned (.int .i64 (cx : Int)) ∧ w' = w'') := hid (fun w' k => by rw [← hcx]; exact lcount_any B1 C1 X w' (F19.out.kept k (fun h => h) (fun h => h)))
              clear hcx hcu KO
              go_wp2_with (refine wpList_load_mid (by rfl) 24 (.tmp 101) (by rfl) D 4 (by rfl) (markL mm) _ RM.out under_mark rfl MM.out ?_)
              refine (lmay_any B3 C3 U mm _ F39.out OM.out).mono ?_
              rw [HUM.out.2.1]
              rintro e w10 ⟨rfl, k10⟩
              have K10 := hid k10
              clear k10
              go_wp2_with fail
              refine (CU.out _ K10.out).mono ?_
              rintro e w11 ⟨rfl, rfl⟩
              go_wp2_with fail
              refine (CX.out _ K10.out).mono ?_
              rintro e w12 ⟨rfl, rfl⟩
              have d1 : decide ((cu : Int) ≥ (cx : Int)) = true := decide_eq_true (by have := HCB.out; omega)
              have d1' : cx ≤ cu := HCB.out.1
              have d1'' : (cx : Int) ≤ (cu : Int) := by omega
              go_wp2_with fail
              refine (CU.out _ K10.out).mono ?_
              rintro e w13 ⟨rfl, rfl⟩
              go_wp2_with fail
              refine (CX.out _ K10.out).mono ?_
              rintro e w14 ⟨rfl, rfl⟩
              have hb := HCB.out
              have d2 : decide ((cu : Int) ≤ (cx : Int) + 4) = true := decide_eq_true (by omega)
              have d2' : (cu : Int) ≤ (cx : Int) + 4 := by omega
              have d3' : cu ≤ cx + 4 := by omega
              go_wp2
              go_ret
              exact ⟨rfl, KW5.out.trans (K9.out.trans K10.out (fun _ _ h => h)) (fun _ _ h => h)⟩

end Go.Proofs.Ytpgiinogfmhfiaa
