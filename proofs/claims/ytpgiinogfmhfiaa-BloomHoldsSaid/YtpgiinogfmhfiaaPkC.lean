/-
  Layer 15: plain: which bits are set behind an Add; that what was added may be there. Conditions: bytes; so many bits as may be.
  Layer 15: the statements' own first. No condition.
  Layer 15: a filter's bytes (Put, the statements' own `bytes`). Condition: a filter in memory.
  Layer 15: plain: the order and repeats of what is added say nothing; how many bits are set at the most. Conditions: bytes; so many bits as may be.
  Layer 15: the law BloomOrder. Condition: a case as its kind holds it.
-/
import Derived.Test.YtpgiinogfmhfiaaPkA
import Derived.Test.YtpgiinogfmhfiaaPkB
import Derived.Test.YtpgiinogfmhfiaaPenNew
import Derived.Test.YtpgiinogfmhfiaaJoined
import Derived.Test.YtpgiinogfmhfiaaVars
namespace Go.Proofs.Ytpgiinogfmhfiaa
open Go.RowKit

def hasB (zs : List Int) (p : Nat) : Bool := (zs[p / 8]?.getD 0).toNat.testBit (p % 8)
theorem or8_nat (a b : Int) (ha : 0 ≤ a ∧ a < 256) (hb : 0 ≤ b ∧ b < 256) : bits .or .u8 a b = ((a.toNat ||| b.toNat : Nat) : Int) := by
  have hA : (BitVec.ofInt 8 a).toNat = a.toNat := by rw [BitVec.toNat_ofInt]; omega
  have hB : (BitVec.ofInt 8 b).toNat = b.toNat := by rw [BitVec.toNat_ofInt]; omega
  have h1 : bits .or .u8 a b = IntKind.u8.wrap (((BitVec.ofInt 8 a ||| BitVec.ofInt 8 b).toNat : Nat) : Int) := rfl
  have h2 : (BitVec.ofInt 8 a ||| BitVec.ofInt 8 b).toNat = a.toNat ||| b.toNat := by rw [BitVec.toNat_or, hA, hB]
  have h3 : a.toNat ||| b.toNat < 2 ^ 8 := Nat.or_lt_two_pow (by omega) (by omega)
  rw [h1, h2, IntKind.wrap_u8]
  omega
theorem bitB_has (zs : List Int) (p : Nat) (hz : IsBytes zs) : bitB zs p = if hasB zs p then 1 else 0 := by
  unfold bitB hasB
  have h := hz (p / 8)
  obtain ⟨a, ha⟩ : ∃ a : Nat, zs[p / 8]?.getD 0 = (a : Int) := ⟨(zs[p / 8]?.getD 0).toNat, by omega⟩
  rw [ha, Int.toNat_natCast, Nat.testBit_eq_decide_div_mod_eq]
  have e : ((a : Int) / 2 ^ (p % 8) % 2) = ((a / 2 ^ (p % 8) % 2 : Nat) : Int) := by simp
  rw [e]
  have := Nat.mod_lt (a / 2 ^ (p % 8)) (show 0 < 2 by decide)
  by_cases h1 : a / 2 ^ (p % 8) % 2 = 1
  · rw [h1]; simp
  · have h0 : a / 2 ^ (p % 8) % 2 = 0 := by omega
    rw [h0]; simp
theorem setB_bytes {zs : List Int} (hz : IsBytes zs) (p : Nat) : IsBytes (setB zs p) := fun j => by
  unfold setB
  by_cases e : p / 8 = j
  · subst e
    by_cases hl : p / 8 < zs.length
    · rw [List.getElem?_set_self hl]; exact or8_rng _ _
    · rw [List.getElem?_set_self' ]
      have : zs[p / 8]? = none := List.getElem?_eq_none (by omega)
      rw [this]
      exact ⟨by simp, by simp⟩
  · rw [List.getElem?_set_ne e]; exact hz j
theorem has_set {zs : List Int} (hz : IsBytes zs) (p q : Nat) (hp : p < 8 * zs.length) : hasB (setB zs p) q = (hasB zs q || q == p) := by
  unfold hasB setB
  by_cases e : p / 8 = q / 8
  · have hl : p / 8 < zs.length := by omega
    rw [← e, List.getElem?_set_self hl, Option.getD_some]
    have hpw := pow8_rng (p % 8) (Nat.mod_lt _ (by decide))
    rw [or8_nat _ _ (hz _) (by omega), Int.toNat_natCast, Nat.testBit_or]
    congr 1
    have e2 : ((2 : Int) ^ (p % 8)).toNat = 2 ^ (p % 8) := by
      have : ((2 : Int) ^ (p % 8)) = ((2 ^ (p % 8) : Nat) : Int) := by simp
      rw [this, Int.toNat_natCast]
    rw [e2, Nat.testBit_two_pow]
    by_cases h : q = p
    · subst h; simp
    · have : ¬ p % 8 = q % 8 := fun h' => h (by omega)
      simp [h, this]
  · rw [List.getElem?_set_ne e]
    have h : q ≠ p := fun h => e (by rw [h])
    simp [h]
theorem addK_bytes {zs : List Int} (hz : IsBytes zs) (m : List Int) (s : Int) : ∀ k, IsBytes (addK zs m s k)
  | 0 => hz
  | k + 1 => by rw [addK_succ]; exact setB_bytes (addK_bytes hz m s k) _
theorem has_addK {zs : List Int} (hz : IsBytes zs) (m : List Int) (h0 : 0 < zs.length) (q : Nat) : ∀ k, hasB (addK zs m ((8 * zs.length : Nat) : Int) k) q = (hasB zs q || (List.range k).any fun i => q == plb ((8 * zs.length : Nat) : Int) m i)
  | 0 => by simp [addK]
  | k + 1 => by
    have hp := plb_lt ((8 * zs.length : Nat) : Int) m k (by omega)
    rw [addK_succ, has_set (addK_bytes hz m _ k) _ q (by rw [addK_length]; omega), has_addK hz m h0 q k, List.range_succ, List.any_append, Bool.or_assoc]
    simp
theorem addL_bytes {zs : List Int} (hz : IsBytes zs) (m : List Int) : IsBytes (addL zs m) := addK_bytes hz m _ 4
/-- A mark's bits. -/
def plcB (s : Int) (m : List Int) (q : Nat) : Bool := (List.range 4).any fun i => q == plb s m i
theorem has_addL {zs : List Int} (hz : IsBytes zs) (m : List Int) (h0 : 0 < zs.length) (q : Nat) : hasB (addL zs m) q = (hasB zs q || plcB ((8 * zs.length : Nat) : Int) m q) := has_addK hz m h0 q 4
theorem mayB_iff {zs : List Int} (hz : IsBytes zs) (m : List Int) : mayB zs m = true ↔ ∀ i, i < 4 → hasB zs (plb ((8 * zs.length : Nat) : Int) m i) = true := by
  unfold mayB
  rw [List.all_eq_true]
  constructor
  · intro h i hi
    have h1 := h i (List.mem_range.2 hi)
    rw [bitB_has zs _ hz] at h1
    cases hb : hasB zs (plb ((8 * zs.length : Nat) : Int) m i) with
    | true => rfl
    | false => rw [hb] at h1; exact absurd h1 (by decide)
  · intro h i hi
    rw [bitB_has zs _ hz, h i (List.mem_range.1 hi)]
    rfl
theorem may_add {zs : List Int} (hz : IsBytes zs) (m : List Int) (h0 : 0 < zs.length) : mayB (addL zs m) m = true := by
  rw [mayB_iff (addL_bytes hz m)]
  intro i hi
  rw [addL_length, has_addL hz m h0]
  have : plcB ((8 * zs.length : Nat) : Int) m (plb ((8 * zs.length : Nat) : Int) m i) = true := by
    unfold plcB
    rw [List.any_eq_true]
    exact ⟨i, List.mem_range.2 hi, by simp⟩
  rw [this, Bool.or_true]
theorem has_zero (t q : Nat) : hasB (zerosL t) q = false := by
  unfold hasB zerosL
  have : (List.replicate t (0 : Int))[q / 8]?.getD 0 = 0 := by
    rw [List.getElem?_replicate]; split <;> rfl
  rw [this]
  exact Nat.zero_testBit _
theorem zerosL_bytes (t : Nat) : IsBytes (zerosL t) := IsBytes.zeros t
theorem may_zero (t : Nat) (m : List Int) : mayB (zerosL t) m = false := by
  cases h : mayB (zerosL t) m with
  | false => rfl
  | true =>
    have h1 := (mayB_iff (zerosL_bytes t) m).1 h 0 (by decide)
    rw [has_zero] at h1
    cases h1
theorem pop_pos : ∀ n : Fin 256, n.val ≠ 0 → 0 < Lib.onesCount n.val := by decide +kernel
theorem fold_mono (f : Int → Nat) : ∀ (l : List Int) (a : Nat), a ≤ l.foldl (fun a z => a + f z) a
  | [], _ => Nat.le_refl _
  | _ :: r, _ => Nat.le_trans (Nat.le_add_right _ _) (fold_mono f r _)
theorem fold_split (f : Int → Nat) (l : List Int) (k : Nat) : l.foldl (fun a z => a + f z) 0 = (l.drop k).foldl (fun a z => a + f z) ((l.take k).foldl (fun a z => a + f z) 0) := by
  rw [← List.foldl_append, List.take_append_drop]
theorem cntB_ge (zs : List Int) (k : Nat) (hk : k < zs.length) : Lib.onesCount (zs[k]?.getD 0).toNat ≤ cntB zs := by
  have e : cntB (zs.take (k + 1)) ≤ cntB zs := by
    unfold cntB
    rw [fold_split (fun z => Lib.onesCount z.toNat) zs (k + 1)]
    exact fold_mono (fun z => Lib.onesCount z.toNat) _ _
  refine Nat.le_trans ?_ e
  rw [cntB_take zs k hk]
  exact Nat.le_add_left _ _
theorem cnt_pos {zs : List Int} (hz : IsBytes zs) (p : Nat) (h : hasB zs p = true) : 0 < cntB zs := by
  have hl : p / 8 < zs.length := by
    refine Nat.lt_of_not_le fun hle => ?_
    unfold hasB at h
    rw [List.getElem?_eq_none hle] at h
    simp at h
  refine Nat.lt_of_lt_of_le ?_ (cntB_ge zs (p / 8) hl)
  have hr := hz (p / 8)
  refine pop_pos ⟨(zs[p / 8]?.getD 0).toNat, by omega⟩ (fun e => ?_)
  dsimp only at e
  unfold hasB at h
  rw [e, Nat.zero_testBit] at h
  cases h

end Go.Proofs.Ytpgiinogfmhfiaa

namespace Go.Proofs.Ytpgiinogfmhfiaa
open Go.RowKit

theorem wpList_load_onL {P : Program} {d : TypeDesc} {ops : Array Oper} {rest : List Oper} {op : Oper} {a : Act} {w : World} {Q : Exit → Act → World → Prop} (hw : Region.wanted op (yielded ops a.tmps) = true) (ty : TypeId) (x : Operand) (ho : op.op = .load ty x)
    (b o : Nat) (hx : a.eval x = .pointer (some ⟨b, o, none⟩)) (cs : List Value) (hc : w.rangeAt b o cs) (hu : P.underlying ty = some d) (hd : d.isRow = true) (hi : (P.info? ty).map (·.size) = some cs.length)
    (h : wpList P ops Q rest (a.put op.dst (.agg cs.toArray)) w) : wpList P ops Q (op :: rest) a w :=
  wpList_step fun K hK => by rw [if_pos hw]; exact wp_load_mid ty x ho b o hx cs d hc hu hd hi (hK _ _ h)
theorem okA1L : MarkOk mA := ⟨rfl, isBytes_of (by decide)⟩
theorem okB1L : MarkOk mB := ⟨rfl, isBytes_of (by decide)⟩
theorem lacks_rows (B C : Nat) (v : Value) (zs : List Int) (ms : List (List Int)) (m : Int) (w : World) (hf : FlAt w B C zs) (hv : MkSl w v ms) (hbig : ms.length ≤ 100000) :
    Calls Try.prog 12 #[.pointer (some ⟨B, 0, none⟩), v, .int .i64 m] w fun e w' => ∃ v1 v2 xs, e = .returned (.tuple #[v1, v2]) ∧ xs = (lackT zs ms ms.length).take m.toNat ∧ RowsSl f1B 0 1 w' v1 xs ∧ RowsSl (f2B ms) ms.length 16 w' v2 xs ∧ Kp Nb w w' := by
  have hl := fun q => (hv.1 q).len
  refine (callsIn_wide.1 (llacks_in 3 (Nat.le_refl _) B C v zs ms m w hf hv hbig)).mono fun _ _ ⟨v1, v2, xs, he, h1, h3, h4, hB⟩ => ?_
  exact ⟨v1, v2, xs, he, h1, rows_owned h3 (fun _ _ => rfl), rows_owned h4 (fun q _ => by rw [markL_length]; exact hl q), Kp.of_below hB⟩
theorem lack_two (zs a b : List Int) (ha : mayB zs a = false) (hb : mayB zs b = false) : lackT zs [a, b] 2 = [0, 1] := by
  rw [lackT_yes zs [a, b] 1 hb, lackT_yes zs [a, b] 0 ha]
  rfl

set_option maxRecDepth 100000 in
set_option maxHeartbeats 4000000 in
theorem lfirst_any (w : World) : Calls Try.prog 7 #[] w fun e w' => e = .returned (.bool true) ∧ Kp Nb w w' := by
  have h1 := build_mA
  obtain ⟨ma, hma⟩ : ∃ m, mA = m := ⟨_, rfl⟩
  obtain ⟨mb, hmb⟩ : ∃ m, mB = m := ⟨_, rfl⟩
  have OMA : Hid (MarkOk ma) := hid (by rw [← hma]; exact okA1L)
  have OMB : Hid (MarkOk mb) := hid (by rw [← hmb]; exact okB1L)
  have HMA := hid hma
  have M1 := hid (mark_infoL ma OMA.out.len)
  have HBA := hid build_mA
  have HBB2 := hid build_mB
  rw [hma] at HBA
  rw [hmb] at HBB2
  have CN8 : Hid (∀ w, Calls Try.prog 8 #[.int .i64 64] w fun e w' => ∃ B C, e = .returned (.tuple #[.pointer (some ⟨B, 0, none⟩), .int .i64 0]) ∧ FlAt w' B C (zerosL 8) ∧ w.heap.size ≤ B ∧ w.heap.size ≤ C ∧ Kp Nb w w') := hid (fun w => lnew_yes 8 w (by decide) (by decide))
  have CN60 : Hid (∀ w, Calls Try.prog 8 #[.int .i64 60] w fun e w' => e = .returned (.tuple #[.pointer none, .int .i64 2]) ∧ w = w') := hid (fun w => lnew_no 60 w (by decide) (by decide) (by decide))
  obtain ⟨Z, hZ⟩ : ∃ z, zerosL 8 = z := ⟨_, rfl⟩
  rw [hZ] at CN8
  have M0 : Hid (mayB Z ma = false) := hid (by rw [← hZ]; exact may_zero 8 ma)
  have ML : Hid (lackT Z [mb, ma] 2 = [0, 1]) := hid (by rw [← hZ]; exact lack_two _ _ _ (may_zero 8 mb) (may_zero 8 ma))
  have ZB : Hid (IsBytes Z) := hid (by rw [← hZ]; exact zerosL_bytes 8)
  have ZL : Hid (Z.length = 8) := hid (by rw [← hZ]; exact List.length_replicate)
  obtain ⟨Y, hY⟩ : ∃ z, addL Z ma = z := ⟨_, rfl⟩
  have MY : Hid (mayB Y ma = true) := hid (by rw [← hY]; exact may_add ZB.out ma (by rw [ZL.out]; decide))
  have YL : Hid (Y.length = 8) := hid (by rw [← hY, addL_length]; exact ZL.out)
  have YB : Hid (IsBytes Y) := hid (by rw [← hY]; exact addL_bytes ZB.out ma)
  obtain ⟨cn, hcn⟩ : ∃ c, cntB Y = c := ⟨_, rfl⟩
  have CNP : Hid (0 < cn ∧ cn ≤ 64) := hid (by
    have hp := (mayB_iff YB.out ma).1 MY.out 0 (by decide)
    have h3 := cntB_le Y YB.out Y.length (Nat.le_refl _)
    rw [List.take_length, YL.out] at h3
    rw [← hcn]
    exact ⟨cnt_pos YB.out _ hp, by omega⟩)
  have HY := hid hY
  have HCN := hid hcn
  clear hZ hY hcn hma hmb
  go_enter Try.func7, Try.ntmps7
  go_wp2_with fail
  refine (CN8.out _).mono ?_
  rintro e w1 ⟨B, C, rfl, f1, l1, l2, k1⟩
  have F1 := hid f1
  have K1 := hid k1
  have LB := hid (show w.heap.size ≤ C from l2)
  clear f1 k1 l1 l2 CN8
  go_wp2_with fail
  refine (CN60.out _).mono ?_
  rintro e w2 ⟨rfl, rfl⟩
  obtain ⟨N, hN⟩ : ∃ N, w1.heap.size = N := ⟨_, rfl⟩
  obtain ⟨W3, hW3⟩ : ∃ W, W = w1.alloc (.cells (markL mA).toArray 24) := ⟨_, rfl⟩
  have k3 : Kp Nb w1 W3 := by rw [hW3]; exact (Kp.refl Nb w1).alloc _
  have D3 : Hid (Blk W3 N 24 (markL ma)) := hid (by rw [← HMA.out, hW3, ← hN]; exact Blk.new w1 _ _)
  have F3 := hid (F1.out.kept k3 (fun h => h) (fun h => h))
  have K3 := hid (K1.out.trans k3 (fun _ _ h => h))
  clear k3 F1 K1 CN60
  go_upto_region 4 with fail
  rw [show w1.alloc (.cells #[.int .u8 1, .int .u8 0, .int .u8 0, .int .u8 0, .int .u8 0, .int .u8 0, .int .u8 0, .int .u8 0, .int .u8 0, .int .u8 0, .int .u8 0, .int .u8 0, .int .u8 0, .int .u8 0, .int .u8 0, .int .u8 0] 24) = W3 from hW3.symm]
  clear hW3 hN h1
  have CM : Hid (∀ w', FlAt w' B C Z → Calls Try.prog 17 #[.pointer (some ⟨B, 0, none⟩), markV ma] w' fun e w'' => e = .returned (.bool false) ∧ Kp Nb w' w'') := hid (fun w' h => by
    have h2 := lmay_any B C Z ma w' h OMA.out
    rw [M0.out] at h2
    exact h2)
  go_wp2_with (refine wpList_load_mid (by rfl) 24 (.tmp 5) (by rfl) N 0 (by rfl) (markL ma) _ (range_of D3.out) under_mark rfl M1.out ?_)
  refine (CM.out _ F3.out).mono ?_
  rintro e w4 ⟨rfl, k4⟩
  have D4 := hid (D3.out.kept k4 (fun h => h))
  have F4 := hid (F3.out.kept k4 (fun h => h) (fun h => h))
  have K4 := hid (K3.out.trans k4 (fun _ _ h => h))
  clear k4 D3 F3 K3 CM
  obtain ⟨W5, hW5⟩ : ∃ W, W = w4.alloc (.cells (markL mb ++ markL ma).toArray 24 (0, 0)) := ⟨_, rfl⟩
  have HM2 := hid (make_two mb ma OMB.out.len OMA.out.len w4)
  rw [← hW5] at HM2
  have k5 : Kp Nb w4 W5 := by rw [hW5]; exact (Kp.refl Nb w4).alloc _
  have S5 : Hid (MkSl W5 (.slice (some ⟨w4.heap.size, 0, none⟩) 2 2) [mb, ma]) := hid (mkSl_two OMB.out OMA.out (by rw [hW5]; exact Blk.new _ _ _))
  have D5 := hid (D4.out.kept k5 (fun h => h))
  have F5 := hid (F4.out.kept k5 (fun h => h) (fun h => h))
  have K5 := hid (K4.out.trans k5 (fun _ _ h => h))
  clear k5 hW5
  go_wp2_with (first
    | (refine wpList_load_mid (by rfl) 24 (.tmp 5) (by rfl) N 0 (by rfl) (markL ma) _ (range_of D4.out) under_mark rfl M1.out ?_)
    | (refine wpList_val (by rfl) _ _ (exec_build rfl (qs := #[(0, .int .u8 2)]) (by simp [Act.eval, Act.put]) (HBB2.out _)) ?_)
    | (refine wpList_val (by rfl) _ _ (exec_buildSlice rfl (qs := #[(0, markV mb), (1, markV ma)]) (by simp [Act.eval, Act.put]) HM2.out) ?_))
  refine (lacks_rows B C _ Z [mb, ma] 9 W5 F5.out S5.out (by simp)).mono ?_
  rintro e w6 ⟨v1, v2, xs, rfl, hx, r1, r2, k6⟩
  have hxl : xs = [0, 1] := by
    rw [hx, show ([mb, ma] : List (List Int)).length = 2 from rfl, ML.out]
    rfl
  subst hxl
  obtain ⟨y1, d1, rfl⟩ := r1.shape
  obtain ⟨y2, d2, rfl⟩ := r2.shape
  have D6 := hid (D5.out.kept k6 (fun h => h))
  have F6 := hid (F5.out.kept k6 (fun h => h) (fun h => h))
  have K6 := hid (K5.out.trans k6 (fun _ _ h => h))
  clear hx r1 r2 k6 D5 F5 K5 S5 HM2 D4 F4 K4
  have CA : Hid (Calls Try.prog 10 #[.pointer (some ⟨B, 0, none⟩), markV ma] w6 fun e w' => e = .returned (.tuple #[]) ∧ FlAt w' B C Y ∧ Kp (Jb C) w6 w') := hid (by
    have h := ladd_any B C Z ma w6 F6.out OMA.out
    rw [HY.out] at h
    exact h)
  have NC : Hid (N ≠ C) := hid (fun e => by
    obtain ⟨cap, rest, -, h2, -⟩ := F6.out.at'
    have h3 := (show w6.heap[N]? = _ from D6.out).symm.trans (show w6.heap[N]? = _ from e ▸ h2)
    injection h3 with h3
    injection h3 with _ h3
    cases h3)
  go_upto_region 6 with fail
  go_wp2_with (refine wpList_load_mid (by rfl) 24 (.tmp 5) (by rfl) N 0 (by rfl) (markL ma) _ (range_of D6.out) under_mark rfl M1.out ?_)
  refine CA.out.mono ?_
  rintro e w7 ⟨rfl, f7, k7⟩
  have D7 := hid (D6.out.kept k7 (fun h => NC.out h))
  have F7 := hid f7
  have K7 := hid (K6.out.trans k7 (fun i hi h => by have h' : i = C := h; have := LB.out; omega))
  clear f7 k7 D6 F6 K6 CA
  have CM7 : Hid (Calls Try.prog 17 #[.pointer (some ⟨B, 0, none⟩), markV ma] w7 fun e w'' => e = .returned (.bool true) ∧ Kp Nb w7 w'') := hid (by
    have h2 := lmay_any B C Y ma w7 F7.out OMA.out
    rw [MY.out] at h2
    exact h2)
  go_wp2_with (refine wpList_load_onL (by first | rfl | kernel_rfl) 24 (.tmp 5) (by rfl) N 0 (by rfl) (markL ma) (range_of D7.out) under_mark rfl M1.out ?_)
  refine CM7.out.mono ?_
  rintro e w8 ⟨rfl, k8⟩
  have F8 := hid (F7.out.kept k8 (fun h => h) (fun h => h))
  have K8 := hid (K7.out.trans k8 (fun _ _ h => h))
  clear k8 D7 F7 K7 CM7
  have CC8 : Hid (Calls Try.prog 16 #[.pointer (some ⟨B, 0, none⟩)] w8 fun e w' => e = .returned (.int .i64 (cn : Int)) ∧ w8 = w') := hid (by
    have h := lcount_any B C Y w8 F8.out
    rw [HCN.out] at h
    exact h)
  have CB8 : Hid (Calls Try.prog 15 #[.pointer (some ⟨B, 0, none⟩)] w8 fun e w' => e = .returned (.int .i64 64) ∧ w8 = w') := hid (by
    have h := lbits_any B C Y w8 F8.out
    rw [YL.out] at h
    exact h)
  have hc0 := CNP.out.1
  have dc2 : decide (0 < cn) = true := decide_eq_true hc0
  have dc3 : decide ((0 : Int) < (cn : Int)) = true := decide_eq_true (by omega)
  have dc : decide ((cn : Int) > 0) = true := decide_eq_true (by have := CNP.out; omega)
  go_wp2_with fail
  refine CC8.out.mono ?_
  rintro e w9 ⟨rfl, rfl⟩
  go_wp2_with fail
  refine CB8.out.mono ?_
  rintro e w9 ⟨rfl, rfl⟩
  go_wp2
  go_ret
  exact ⟨rfl, K8.out⟩

end Go.Proofs.Ytpgiinogfmhfiaa

namespace Go.Proofs.Ytpgiinogfmhfiaa
open Go.RowKit

theorem FlAt.by' {w : World} {B C cap : Nat} {zs : List Int} (h : FlAt w B C zs) (hc : w.cell? ⟨B, 0, none⟩ = some (.slice (some ⟨C, 0, none⟩) zs.length cap)) : BySl Nb w (.slice (some ⟨C, 0, none⟩) zs.length cap) zs := by
  obtain ⟨cap', rest, h1, h2, h3, h4⟩ := h.at'
  have e := h1.cell 0
  rw [hc] at e
  simp at e
  subst e
  exact ⟨h.ok, .inr ⟨C, 0, cap, rfl, h3, h4, fun i hi => by
    rw [Nat.zero_add, h2.cell i, List.getElem?_append_left (by rw [List.length_map]; exact hi), List.getElem?_map, List.getElem?_eq_getElem hi]
    rfl, fun _ h => h⟩⟩
theorem exec_convertB {P : Program} {ev : Operand → Value} {o : Oper} {T U : TypeId} {x : Operand} {v r : Value} {w w' : World} (ho : o.op = .convert T U x) (hx : ev x = v) (hl : (convert T U v).run P w = .ok r w') : (execOp ev o).run P w = .ok (.value r) w' := by
  unfold execOp
  simp only [ho, hx, Sem.run_bind, Sem.run_pure, Result.andThen_ok, hl]
def bytL (zs : List Int) : List Int := numBytes zs.length ++ zs
set_option maxRecDepth 100000 in
set_option maxHeartbeats 2000000 in
theorem lput_any (B C P : Nat) (v : Value) (zs : List Int) (w : World) (h : FlAt w B C zs) (hp : PenAt w P v []) (hB : B ≠ P) (hv : v = .slice none 0 0) (hCP : C ≠ P) :
    Calls Try.prog 34 #[.pointer (some ⟨B, 0, none⟩), .pointer (some ⟨P, 0, none⟩)] w fun e w' => e = .returned (.tuple #[]) ∧ ∃ v', PenAt w' P v' (bytL zs) ∧ PenTo w w' P v v' := by
  subst hv
  obtain ⟨cap, rest, h1, h2, h3, h4⟩ := h.at'
  have c0 := h1.cell 0
  simp only [List.getElem?_cons_zero] at c0
  have HF := hid h
  have HP := hid hp
  have HS := hid h.size
  obtain ⟨n, hn⟩ : ∃ n, zs.length = n := ⟨_, rfl⟩
  have HN := hid hn
  rw [hn] at c0 HS h1
  have H1 := hid h1
  have hw : IntKind.u64.wrap (n : Int) = (n : Int) := by rw [IntKind.wrap_u64]; have := HS.out; omega
  have HE : Hid (bytL zs = numBytes n ++ zs) := hid (by unfold bytL; rw [hn])
  clear h hp h1 h2 h3 h4 hn
  go_enter Try.func34, Try.ntmps34
  go_wp2_with fail
  refine (pen_number P _ _ (n : Int) w HP.out (by omega) (by have := HS.out; omega) (by simp)).mono ?_
  rintro e w1 ⟨rfl, v1, p1, t1⟩
  have hlt := HF.out.lt
  have KN : Hid (∀ b, b < w.heap.size → b ≠ P → w1.heap[b]? = w.heap[b]?) := hid (fun b hb hne => t1.kp.heap hb (fun h => h.elim (fun h => hne h) (fun h => by simp [Value.ownBlock] at h)))
  have F1 : Hid (FlAt w1 B C zs) := hid (by
    obtain ⟨cap', rest', g1, g2, g3⟩ := HF.out.at'
    exact ⟨HF.out.ok, ⟨cap', rest', (KN.out B hlt.1 hB).trans g1, (KN.out C hlt.2 hCP).trans g2, g3⟩, HF.out.size, HF.out.ne⟩)
  have c1 : w1.cell? ⟨B, 0, none⟩ = some (.slice (some ⟨C, 0, none⟩) n cap) := by
    have := (show w1.heap[B]? = _ from (KN.out B hlt.1 hB).trans H1.out)
    exact (Blk.cell (show Blk w1 B _ _ from this) 0)
  have BY1 : Hid (BySl (Pb P v1) w1 (.slice (some ⟨C, 0, none⟩) n cap) zs) := hid (by
    have hb := F1.out.by' (cap := cap) (by rw [HN.out]; exact c1)
    rw [HN.out] at hb
    rcases hb.2 with ⟨⟨a, c, e⟩, h0⟩ | ⟨blk, off, c, e, g1, g2, g3, -⟩
    · exact ⟨hb.1, .inl ⟨⟨a, c, e⟩, h0⟩⟩
    · injection e with e1 e2 e3
      injection e1 with e1
      injection e1 with e1 e4 e5
      subst e1 e4 e3
      refine ⟨hb.1, .inr ⟨C, 0, cap, by rw [HN.out], g1, g2, g3, fun _ hx => ?_⟩⟩
      rcases hx with hx | hx
      · exact hCP hx
      · have := penTo_own t1 rfl C hx
        omega)
  have P1 := hid p1
  have T1 := hid t1
  have HEB : Hid ([] ++ numBytes (n : Int) ++ zs = bytL zs) := hid (by rw [HE.out]; rfl)
  have NL := hid (numBytes_length (n : Int) (by have := HS.out; omega))
  clear p1 t1 hlt
  go_wp2_with fail
  refine (pen_fixed (S := Pb P v1) P v1 _ _ zs w1 P1.out BY1.out (by have := NL.out; have := HS.out; have := HN.out; simp; omega)).mono ?_
  rintro e w2 ⟨rfl, v2, p2, t2⟩
  have P2 : Hid (PenAt w2 P v2 (bytL zs)) := hid (by rw [← HEB.out]; exact p2)
  have T2 := hid (T1.out.trans t2)
  clear p2 t2
  go_wp2
  go_end0
  exact ⟨rfl, v2, P2.out, T2.out⟩

set_option maxRecDepth 100000 in
set_option maxHeartbeats 2000000 in
theorem lbytes_any (B C : Nat) (zs : List Int) (w : World) (h : FlAt w B C zs) :
    Calls Try.prog 18 #[.pointer (some ⟨B, 0, none⟩)] w fun e w' => e = .returned (.string (st (bytL zs))) ∧ Kp Nb w w' := by
  obtain ⟨P, hP⟩ : ∃ P, w.heap.size = P := ⟨_, rfl⟩
  obtain ⟨W, hW⟩ : ∃ W, W = w.alloc (.cells #[.slice none 0 0] 73) := ⟨_, rfl⟩
  have P0 : Hid (PenAt W P (.slice none 0 0) []) := hid (by rw [hW, ← hP]; exact pen_new w)
  have k0 : Kp Nb w W := by rw [hW]; exact (Kp.refl Nb w).alloc _
  have K0 := hid k0
  have hlt := h.lt
  have CP := hid (lput_any B C P _ zs W (h.kept k0 (fun h => h) (fun h => h)) P0.out (by omega) rfl (by omega))
  have HB : Hid ((bytL zs).length ≤ 2000) := hid (by
    have := h.size
    have := numBytes_length (zs.length : Int) (by omega)
    unfold bytL
    rw [List.length_append]
    omega)
  have LP : Hid (w.heap.size ≤ P) := hid (Nat.le_of_eq hP)
  obtain ⟨S, hS⟩ : ∃ s, st (bytL zs) = s := ⟨_, rfl⟩
  have HST := hid hS
  rw [hS]
  clear h k0 hlt hS
  go_enter Try.func18, Try.ntmps18
  go_upto_region 2 with fail
  rw [show w.alloc (.cells #[.slice none 0 0] 73) = W from hW.symm]
  clear hW hP
  go_wp2_with fail
  refine CP.out.mono ?_
  rintro e w1 ⟨rfl, v1, p1, t1⟩
  have P1 := hid p1
  have K1 : Hid (Kp Nb w w1) := hid (K0.out.trans t1.kp (fun i hi h => h.elim (fun h => by have := LP.out; omega) (fun h => by simp [Value.ownBlock] at h)))
  clear p1 t1 CP P0
  go_wp2_with fail
  refine (pen_bytes P v1 (bytL zs) w1 P1.out (by have := HB.out; omega)).mono ?_
  rintro e w2 ⟨r, rfl, ow, k2⟩
  have BY : Hid (BySl Nb w2 r (bytL zs)) := hid (BySl.ofOwn ow P1.out.bytes (fun _ _ _ h => h))
  have hcv := conv_any BY.out
  have K2 := hid (K1.out.trans k2 (fun _ _ h => h))
  rw [HST.out] at hcv
  obtain ⟨y, d, rfl⟩ := own_shape ow
  clear ow k2
  go_wp2_with (refine wpList_val (by rfl) _ _ (exec_convertB rfl rfl hcv) ?_)
  go_ret
  exact ⟨rfl, K2.out⟩

end Go.Proofs.Ytpgiinogfmhfiaa

namespace Go.Proofs.Ytpgiinogfmhfiaa
open Go.RowKit

theorem eq_of_has {xs ys : List Int} (hx : IsBytes xs) (hy : IsBytes ys) (hl : xs.length = ys.length) (h : ∀ q, hasB xs q = hasB ys q) : xs = ys := by
  apply List.ext_getElem hl
  intro i h1 h2
  have e : (xs[i]?.getD 0).toNat = (ys[i]?.getD 0).toNat := by
    have rx := hx i
    have ry := hy i
    apply Nat.eq_of_testBit_eq
    intro j
    rcases Nat.lt_or_ge j 8 with hj | hj
    · have h3 := h (8 * i + j)
      unfold hasB at h3
      rw [show (8 * i + j) / 8 = i from by omega, show (8 * i + j) % 8 = j from by omega] at h3
      exact h3
    · have p8 : 2 ^ 8 ≤ 2 ^ j := Nat.pow_le_pow_right (by decide) hj
      rw [Nat.testBit_lt_two_pow (by omega), Nat.testBit_lt_two_pow (by omega)]
  have rx := hx i
  have ry := hy i
  rw [List.getElem?_eq_getElem h1, Option.getD_some] at e rx
  rw [List.getElem?_eq_getElem h2, Option.getD_some] at e ry
  omega
/-- Marks added one after the other. -/
def addsL (zs : List Int) (l : List (List Int)) : List Int := l.foldl addL zs
theorem addsL_snoc (zs : List Int) (l : List (List Int)) (m : List Int) : addsL zs (l ++ [m]) = addL (addsL zs l) m := by unfold addsL; rw [List.foldl_append]; rfl
theorem addsL_len (zs : List Int) : ∀ l : List (List Int), (addsL zs l).length = zs.length := fun l => by
  unfold addsL
  induction l generalizing zs with
  | nil => rfl
  | cons m r ih => rw [List.foldl_cons, ih, addL_length]
theorem addsL_bytes {zs : List Int} (hz : IsBytes zs) (l : List (List Int)) : IsBytes (addsL zs l) := by
  unfold addsL
  induction l generalizing zs with
  | nil => exact hz
  | cons m r ih => exact ih (addL_bytes hz m)
theorem has_adds {zs : List Int} (hz : IsBytes zs) (h0 : 0 < zs.length) (l : List (List Int)) (q : Nat) : hasB (addsL zs l) q = (hasB zs q || l.any fun m => plcB ((8 * zs.length : Nat) : Int) m q) := by
  unfold addsL
  induction l generalizing zs with
  | nil => simp
  | cons m r ih =>
    rw [List.foldl_cons, ih (addL_bytes hz m) (by rw [addL_length]; exact h0), addL_length, has_addL hz m h0, List.any_cons, Bool.or_assoc]
theorem adds_same {zs : List Int} (hz : IsBytes zs) (h0 : 0 < zs.length) (l k : List (List Int)) (h : ∀ m, m ∈ l ↔ m ∈ k) : addsL zs l = addsL zs k := by
  refine eq_of_has (addsL_bytes hz l) (addsL_bytes hz k) (by rw [addsL_len, addsL_len]) (fun q => ?_)
  rw [has_adds hz h0, has_adds hz h0]
  congr 1
  rw [Bool.eq_iff_iff, List.any_eq_true, List.any_eq_true]
  exact ⟨fun ⟨m, hm, e⟩ => ⟨m, (h m).1 hm, e⟩, fun ⟨m, hm, e⟩ => ⟨m, (h m).2 hm, e⟩⟩
/-- What the second one gets in k rounds: from the back, and the first one each time. -/
def backL (ms : List (List Int)) (k : Nat) : List (List Int) := (List.range k).flatMap fun i => [markAt ms (ms.length - 1 - i), markAt ms 0]
theorem backL_succ (ms : List (List Int)) (k : Nat) : backL ms (k + 1) = backL ms k ++ [markAt ms (ms.length - 1 - k)] ++ [markAt ms 0] := by
  unfold backL
  rw [List.range_succ, List.flatMap_append, List.flatMap_singleton]
  simp
theorem mem_backL (ms : List (List Int)) (m : List Int) : m ∈ ms ↔ m ∈ backL ms ms.length := by
  unfold backL
  rw [List.mem_flatMap]
  constructor
  · intro h
    obtain ⟨i, hi, rfl⟩ := List.mem_iff_getElem.1 h
    refine ⟨ms.length - 1 - i, List.mem_range.2 (by omega), ?_⟩
    have e : ms.length - 1 - (ms.length - 1 - i) = i := by omega
    rw [e]
    unfold markAt
    rw [List.getElem?_eq_getElem hi]
    simp
  · rintro ⟨i, hi, h⟩
    have hi' := List.mem_range.1 hi
    have key : ∀ j, j < ms.length → markAt ms j ∈ ms := fun j hj => by
      unfold markAt
      rw [List.getElem?_eq_getElem hj]
      exact List.getElem_mem hj
    rcases List.mem_cons.1 h with h | h
    · rw [h]; exact key _ (by omega)
    · rw [List.mem_singleton.1 h]; exact key 0 (by omega)
theorem order_same {zs : List Int} (hz : IsBytes zs) (h0 : 0 < zs.length) (ms : List (List Int)) : addsL zs ms = addsL zs (backL ms ms.length) := adds_same hz h0 _ _ (mem_backL ms)
-- how many bits
theorem fold_from (f : Int → Nat) : ∀ (l : List Int) (c : Nat), l.foldl (fun a z => a + f z) c = c + l.foldl (fun a z => a + f z) 0
  | [], _ => rfl
  | x :: r, c => by rw [List.foldl_cons, List.foldl_cons, fold_from f r (c + f x), fold_from f r (0 + f x)]; omega
theorem fold_set (f : Int → Nat) : ∀ (l : List Int) (i : Nat) (x : Int), i < l.length → (l.set i x).foldl (fun a z => a + f z) 0 + f (l[i]?.getD 0) = l.foldl (fun a z => a + f z) 0 + f x
  | [], i, x, h => absurd h (Nat.not_lt_zero _)
  | y :: r, 0, x, _ => by
    rw [List.set_cons_zero, List.foldl_cons, List.foldl_cons, fold_from f r (0 + f x), fold_from f r (0 + f y)]
    simp
    omega
  | y :: r, i + 1, x, h => by
    have ih := fold_set f r i x (by simpa using h)
    rw [List.set_cons_succ, List.foldl_cons, List.foldl_cons, fold_from f (r.set i x) (0 + f y), fold_from f r (0 + f y)]
    simp only [List.getElem?_cons_succ]
    omega
theorem pop_or : ∀ (n : Fin 256) (e : Fin 8), Lib.onesCount (n.val ||| 2 ^ e.val) ≤ Lib.onesCount n.val + 1 := by decide +kernel
theorem cnt_set {zs : List Int} (hz : IsBytes zs) (p : Nat) (hp : p < 8 * zs.length) : cntB (setB zs p) ≤ cntB zs + 1 := by
  have h := fold_set (fun z => Lib.onesCount z.toNat) zs (p / 8) (bits .or .u8 (zs[p / 8]?.getD 0) (2 ^ (p % 8))) (by omega)
  have hr := hz (p / 8)
  have hpw := pow8_rng (p % 8) (Nat.mod_lt _ (by decide))
  have e2 : ((2 : Int) ^ (p % 8)).toNat = 2 ^ (p % 8) := by
    have : ((2 : Int) ^ (p % 8)) = ((2 ^ (p % 8) : Nat) : Int) := by simp
    rw [this, Int.toNat_natCast]
  have h3 := pop_or ⟨(zs[p / 8]?.getD 0).toNat, by omega⟩ ⟨p % 8, Nat.mod_lt _ (by decide)⟩
  dsimp only at h h3
  rw [or8_nat _ _ hr (by omega), Int.toNat_natCast, e2] at h
  unfold cntB setB
  rw [or8_nat _ _ hr (by omega), e2]
  generalize Lib.onesCount ((zs[p / 8]?.getD 0).toNat ||| 2 ^ (p % 8)) = u at h h3
  generalize Lib.onesCount (zs[p / 8]?.getD 0).toNat = v at h h3
  omega
theorem cnt_addK {zs : List Int} (hz : IsBytes zs) (m : List Int) (h0 : 0 < zs.length) : ∀ k, cntB (addK zs m ((8 * zs.length : Nat) : Int) k) ≤ cntB zs + k
  | 0 => Nat.le_refl _
  | k + 1 => by
    have hp := plb_lt ((8 * zs.length : Nat) : Int) m k (by omega)
    rw [addK_succ]
    have h1 := cnt_set (addK_bytes hz m ((8 * zs.length : Nat) : Int) k) (plb ((8 * zs.length : Nat) : Int) m k) (by rw [addK_length]; omega)
    have h2 := cnt_addK hz m h0 k
    omega
theorem cnt_adds {zs : List Int} (hz : IsBytes zs) (h0 : 0 < zs.length) (l : List (List Int)) : cntB (addsL zs l) ≤ cntB zs + 4 * l.length := by
  unfold addsL
  induction l generalizing zs with
  | nil => exact Nat.le_refl _
  | cons m r ih =>
    have h1 := ih (addL_bytes hz m) (by rw [addL_length]; exact h0)
    have h2 : cntB (addL zs m) ≤ cntB zs + 4 := cnt_addK hz m h0 4
    rw [List.foldl_cons, List.length_cons]
    omega
theorem cnt_zero (t : Nat) : cntB (zerosL t) = 0 := by
  unfold zerosL
  induction t with
  | zero => rfl
  | succ n ih =>
    rw [List.replicate_succ', cntB_snoc, ih]
    rfl

end Go.Proofs.Ytpgiinogfmhfiaa

namespace Go.Proofs.Ytpgiinogfmhfiaa
open Go.RowKit

theorem MkSl.keptT {S : Nat → Prop} {w w' : World} {v : Value} {ms : List (List Int)} (h : MkSl w v ms) (k : Kp S w w') (hS : ∀ i, i < w.heap.size → ¬ S i) : MkSl w' v ms := by
  refine ⟨h.1, ?_⟩
  rcases h.2 with h | ⟨blk, off, cap, rfl, hc, hm, hr⟩
  · exact .inl h
  · exact .inr ⟨blk, off, cap, rfl, hc, hm, fun i hi j u hu => k.cell (hr i hi j u hu) (hS blk (World.block_lt_of_cell? _ _ (hr i hi j u hu)))⟩
theorem rng_keptT {S : Nat → Prop} {w w' : World} {B o : Nat} {vs : List Value} (h : w.rangeAt B o vs) (k : Kp S w w') (hS : ∀ i, i < w.heap.size → ¬ S i) : w'.rangeAt B o vs := fun j v hv => k.cell (h j v hv) (hS B (World.block_lt_of_cell? _ _ (h j v hv)))
/-- Two filters, each added to. -/
structure OrS (wA : World) (B1 C1 B2 C2 : Nat) (zs : List Int) (ms : List (List Int)) (k : Nat) (wr : World) : Prop where
  f1 : FlAt wr B1 C1 (addsL zs (ms.take k))
  f2 : FlAt wr B2 C2 (addsL zs (backL ms k))
  kp : Kp (fun b => b = C1 ∨ b = C2) wA wr
def OrR (wA : World) (B1 C1 B2 C2 : Nat) (zs : List Int) (ms : List (List Int)) (N : Nat) (i : Value) (wr : World) : Prop := ∃ k : Nat, k ≤ N ∧ i = .int .i64 k ∧ Hid (OrS wA B1 C1 B2 C2 zs ms k wr)

set_option maxRecDepth 100000 in
set_option maxHeartbeats 16000000 in
theorem lorder_any (cs : List Value) (n : Int) (vA : Value) (ms : List (List Int)) (w : World) (hc0 : cs[0]? = some (.int .i64 n)) (hc2 : cs[2]? = some vA) (hA : MkSl w vA ms) (hn : -9223372036854775808 ≤ n ∧ n < 9223372036854775808) :
    Calls Try.prog 6 #[.agg cs.toArray] w fun e w' => e = .returned (.bool true) ∧ Kp Nb w w' := by
  obtain ⟨yA, dA, rfl⟩ := hA.shape
  obtain ⟨N, hN⟩ : ∃ N, ms.length = N := ⟨_, rfl⟩
  rw [hN] at hc2 hA
  have HNM := hid hN
  have HNR := hid hn
  obtain ⟨D, hD⟩ : ∃ D, w.heap.size = D := ⟨_, rfl⟩
  obtain ⟨W, hW⟩ : ∃ W, W = w.alloc (.cells cs.toArray 27) := ⟨_, rfl⟩
  have H0 : Hid (Blk W D 27 cs) := hid (by rw [hW, ← hD]; exact Blk.new w _ _)
  have k0 : Kp Nb w W := by rw [hW]; exact (Kp.refl Nb w).alloc _
  have K0 := hid k0
  have HA0 := hid (hA.kept k0)
  have HC0 := hid hc0
  have HC2 := hid hc2
  clear hA k0 hN hn hc0 hc2
  go_enter Try.func6, Try.ntmps6
  go_upto_region 1 with fail
  rw [show w.alloc (.cells cs.toArray 27) = W from hW.symm]
  clear hW hD
  go_wp2_with fail
  refine (lfirst_any _).mono ?_
  rintro e w1 ⟨rfl, k1⟩
  have H1 := hid (H0.out.kept k1 (fun h => h))
  have HA1 := hid (HA0.out.kept k1)
  have K1 := hid (K0.out.trans k1 (fun _ _ h => h))
  have c0 : w1.cell? ⟨D, 0, none⟩ = some (.int .i64 n) := (H1.out.cell 0).trans HC0.out
  have c2 : w1.cell? ⟨D, 2, none⟩ = some (.slice yA N dA) := (H1.out.cell 2).trans HC2.out
  clear k1 H0 HA0 K0
  by_cases hl : 60 < N
  · have d1 : decide ((N : Int) > 60) = true := decide_eq_true (by omega)
    go_wp2
    go_ret
    exact ⟨rfl, K1.out⟩
  have d1 : decide ((N : Int) > 60) = false := decide_eq_false (by omega)
  have HN60 : Hid (N ≤ 60) := hid (by omega)
  clear hl
  cases hf : fitL n
  · have CN : Hid (∀ w, Calls Try.prog 8 #[.int .i64 n] w fun e w' => e = .returned (.tuple #[.pointer none, .int .i64 2]) ∧ w = w') := hid (fun w => lnew_no n w HNR.out.1 HNR.out.2 hf)
    clear hf
    go_wp2_with fail
    refine (CN.out _).mono ?_
    rintro e w2 ⟨rfl, rfl⟩
    go_wp2
    go_ret
    exact ⟨rfl, K1.out⟩
  · obtain ⟨t, rfl, t0, t1⟩ := fitL_t hf
    have CN : Hid (∀ w, Calls Try.prog 8 #[.int .i64 ((8 * t : Nat) : Int)] w fun e w' => ∃ B C, e = .returned (.tuple #[.pointer (some ⟨B, 0, none⟩), .int .i64 0]) ∧ FlAt w' B C (zerosL t) ∧ w.heap.size ≤ B ∧ w.heap.size ≤ C ∧ Kp Nb w w') := hid (fun w => lnew_yes t w t0 t1)
    have HT : Hid (8 ≤ t ∧ t ≤ 1024) := hid ⟨t0, t1⟩
    clear hf t0 t1
    go_wp2_with fail
    refine (CN.out _).mono ?_
    rintro e w2 ⟨B1, C1, rfl, f1, l1, l2, k2⟩
    have F1 := hid f1
    have H2 := hid (H1.out.kept k2 (fun h => h))
    have K12 := hid k2
    have L1 := hid (show w1.heap.size ≤ B1 ∧ w1.heap.size ≤ C1 ∧ B1 < w2.heap.size ∧ C1 < w2.heap.size ∧ D < w1.heap.size from ⟨l1, l2, f1.lt.1, f1.lt.2, H1.out.lt⟩)
    have c0 : w2.cell? ⟨D, 0, none⟩ = some (.int .i64 ((8 * t : Nat) : Int)) := (H2.out.cell 0).trans HC0.out
    clear f1 l1 l2 k2 c2 d1
    go_wp2_with fail
    refine (CN.out _).mono ?_
    rintro e w3 ⟨B2, C2, rfl, f2, l1, l2, k3⟩
    have F1' := hid (F1.out.kept k3 (fun h => h) (fun h => h))
    have F2 := hid f2
    have H3 := hid (H2.out.kept k3 (fun h => h))
    have K13 : Hid (Kp (fun b => b = C1 ∨ b = C2) w1 w3) := hid ((K12.out.trans k3 (fun _ _ h => h)).mono (fun _ _ h => h.elim))
    have L2 := hid (show w2.heap.size ≤ B2 ∧ w2.heap.size ≤ C2 from ⟨l1, l2⟩)
    have LW := hid K1.out.size
    have c2 : w3.cell? ⟨D, 2, none⟩ = some (.slice yA N dA) := (H3.out.cell 2).trans HC2.out
    obtain ⟨zs, hzs⟩ : ∃ z, zerosL t = z := ⟨_, rfl⟩
    rw [hzs] at F1' F2
    have HZS := hid hzs
    have HZB : Hid (IsBytes zs) := hid F2.out.ok
    have HZL : Hid (zs.length = t) := hid (by rw [← hzs]; exact List.length_replicate)
    have S0 : Hid (OrS w1 B1 C1 B2 C2 zs ms 0 w3) := hid ⟨by rw [List.take_zero]; exact F1'.out, F2.out, K13.out⟩
    clear hzs f2 l1 l2 k3 F1 c0 H2 H3 K12 K13 CN F1' F2
    go_wp2
    go_loopw [34] (OrR w1 B1 C1 B2 C2 zs ms N) (fun i _ => N - (intOf i).toNat)
    case atStart => exact ⟨0, Nat.zero_le _, rfl, S0⟩
    case round =>
      clear S0
      obtain ⟨k, hk, rfl, HO⟩ := hrel
      have TN : Hid (∀ i, i < w1.heap.size → ¬ (i = C1 ∨ i = C2)) := hid (fun i hi h => by have := L1.out; have := L2.out; omega)
      have KW : Hid (Kp Nb w wr) := hid (K1.out.trans HO.out.kp (fun i hi h => by have := LW.out; exact TN.out i (by omega) h))
      have CA : Hid (wr.cell? ⟨D, 2, none⟩ = some (.slice yA N dA)) := hid (((H1.out.kept HO.out.kp (fun h => TN.out D L1.out.2.2.2.2 h)).cell 2).trans HC2.out)
      by_cases hlt : k < N
      · rcases HA1.out.2 with ⟨_, e0⟩ | ⟨blk, off, cap, e1, hc, hm, hcell⟩
        · have := HNM.out; rw [e0] at this; simp at this; omega
        injection e1 with e1 e7 e2
        subst e1 e2
        clear e7
        rw [HNM.out] at hc
        unfold maxLen at hm
        obtain ⟨j, hj⟩ : ∃ j, N - 1 - k = j := ⟨_, rfl⟩
        have R1 := hid (hcell k (by rw [HNM.out]; exact hlt))
        have R2 := hid (hcell j (by rw [HNM.out]; omega))
        have R3 := hid (hcell 0 (by rw [HNM.out]; omega))
        have OX := hid (HA1.out.1 k)
        have OY := hid (HA1.out.1 j)
        have OZ := hid (HA1.out.1 0)
        have HX1 : Hid (addsL zs (ms.take (k + 1)) = addL (addsL zs (ms.take k)) (markAt ms k)) := hid (by
          have hkl : k < ms.length := by rw [HNM.out]; exact hlt
          rw [List.take_succ_eq_append_getElem hkl, addsL_snoc]
          unfold markAt
          rw [List.getElem?_eq_getElem hkl]
          rfl)
        have HX2 : Hid (addsL zs (backL ms (k + 1)) = addL (addL (addsL zs (backL ms k)) (markAt ms j)) (markAt ms 0)) := hid (by rw [backL_succ, addsL_snoc, addsL_snoc, HNM.out, hj])
        rw [Nat.zero_mul, Nat.add_zero] at R3
        have ej : (N : Int) - 1 - (k : Int) = (j : Int) := by omega
        have hjn : j < N := by omega
        generalize markAt ms k = x at R1 OX HX1
        generalize markAt ms j = y at R2 OY HX2
        generalize markAt ms 0 = z at R3 OZ HX2
        have MX := hid (mark_infoL x OX.out.len)
        have MY := hid (mark_infoL y OY.out.len)
        have MZ := hid (mark_infoL z OZ.out.len)
        obtain ⟨M5, hM5⟩ : ∃ N, wr.heap.size = N := ⟨_, rfl⟩
        have hb0 : Blk (wr.alloc (.cells #[.int .u8 0, .int .u8 0, .int .u8 0, .int .u8 0, .int .u8 0, .int .u8 0, .int .u8 0, .int .u8 0, .int .u8 0, .int .u8 0, .int .u8 0, .int .u8 0, .int .u8 0, .int .u8 0, .int .u8 0, .int .u8 0] 24)) wr.heap.size 24 (markL z16) := Blk.new wr 24 (markL z16)
        rw [hM5] at hb0
        obtain ⟨W5, hW5⟩ : ∃ W, W = (wr.alloc (.cells #[.int .u8 0, .int .u8 0, .int .u8 0, .int .u8 0, .int .u8 0, .int .u8 0, .int .u8 0, .int .u8 0, .int .u8 0, .int .u8 0, .int .u8 0, .int .u8 0, .int .u8 0, .int .u8 0, .int .u8 0, .int .u8 0] 24)).setCells M5 0 (markL x) := ⟨_, rfl⟩
        have D5 : Hid (Blk W5 M5 24 (markL x)) := hid (by rw [hW5]; exact row_set hb0 (by rw [markL_length, OX.out.len]; rfl))
        have k5 : Kp Nb wr W5 := by rw [hW5]; exact Kp.setCells (fun h => by omega) _ _ _ ((Kp.refl Nb wr).alloc _)
        have TH : Hid ((wr.alloc (.cells #[.int .u8 0, .int .u8 0, .int .u8 0, .int .u8 0, .int .u8 0, .int .u8 0, .int .u8 0, .int .u8 0, .int .u8 0, .int .u8 0, .int .u8 0, .int .u8 0, .int .u8 0, .int .u8 0, .int .u8 0, .int .u8 0] 24)).there M5 0 (markL x).toArray.size) := hid (by rw [List.size_toArray, markL_length, OX.out.len]; exact hb0.there 0 16 (Nat.le_refl _))
        have SI : Hid ((Try.prog.info? 24).map (·.size) = some (markL x).toArray.size) := hid (by rw [List.size_toArray]; exact mark_infoL x OX.out.len)
        have ON : Hid ((markL x).toArray.all (·.oneCell') = true) := hid (all_oneCell_toArray (markL_one' x))
        have F15 := hid (HO.out.f1.kept k5 (fun h => h) (fun h => h))
        have F25 := hid (HO.out.f2.kept k5 (fun h => h) (fun h => h))
        have K5 : Hid (Kp (fun b => b = C1 ∨ b = C2) w1 W5) := hid (HO.out.kp.trans k5 (fun _ _ h => h.elim))
        have R1r := hid (rng_keptT R1.out HO.out.kp TN.out)
        have HLT := hid hlt
        clear hb0 hj hcell k5 HO
        go_upto_region 12 with (first
          | (refine wpList_load_mid (by rfl) 24 (.tmp 37) (by rfl) blk (off + k * 16) (by rfl) (markL x) _ R1r.out under_mark rfl MX.out ?_)
          | (refine wpList_store_mid (by rfl) 24 (.tmp 8) (.tmp 38) (by rfl) M5 0 (markL x).toArray (by rfl) (by rfl) TH.out SI.out ON.out ?_))
        rw [show (wr.alloc (.cells #[.int .u8 0, .int .u8 0, .int .u8 0, .int .u8 0, .int .u8 0, .int .u8 0, .int .u8 0, .int .u8 0, .int .u8 0, .int .u8 0, .int .u8 0, .int .u8 0, .int .u8 0, .int .u8 0, .int .u8 0, .int .u8 0] 24)).setCells M5 0 (markL x) = W5 from hW5.symm]
        clear hW5 hM5
        have LL : Hid (B1 ≠ C2 ∧ C1 ≠ C2 ∧ B2 ≠ C1) := hid (by have := L1.out; have := L2.out; omega)
        have D5r := hid (range_of D5.out)
        go_wp2_with (refine wpList_load_mid (by rfl) 24 (.tmp 8) (by rfl) M5 0 (by rfl) (markL x) _ D5r.out under_mark rfl MX.out ?_)
        refine (ladd_any B1 C1 _ x _ F15.out OX.out).mono ?_
        rintro e w6 ⟨rfl, f6, k6⟩
        have F16 : Hid (FlAt w6 B1 C1 (addsL zs (ms.take (k + 1)))) := hid (by rw [HX1.out]; exact f6)
        have F26 := hid (F25.out.kept k6 (fun h => LL.out.2.2 h) (fun h => LL.out.2.1 h.symm))
        have K6 : Hid (Kp (fun b => b = C1 ∨ b = C2) w1 w6) := hid (K5.out.trans k6 (fun _ _ h => .inl h))
        have R26 := hid (rng_keptT R2.out K6.out TN.out)
        have ca : w6.cell? ⟨D, 2, none⟩ = some (.slice (some ⟨blk, off, none⟩) N dA) := ((H1.out.kept K6.out (fun h => TN.out D L1.out.2.2.2.2 h)).cell 2).trans HC2.out
        clear f6 k6 F15 F25 K5 D5 D5r
        go_wp2_with (refine wpList_load_mid (by rfl) 24 (.tmp 51) (by rfl) blk (off + j * 16) (by rfl) (markL y) _ R26.out under_mark rfl MY.out ?_)
        refine (ladd_any B2 C2 _ y _ F26.out OY.out).mono ?_
        rintro e w7 ⟨rfl, f7, k7⟩
        have F17 := hid (F16.out.kept k7 (fun h => LL.out.1 h) (fun h => LL.out.2.1 h))
        have F27 := hid f7
        have K7 : Hid (Kp (fun b => b = C1 ∨ b = C2) w1 w7) := hid (K6.out.trans k7 (fun _ _ h => .inr h))
        have R37 := hid (rng_keptT R3.out K7.out TN.out)
        have ca7 : w7.cell? ⟨D, 2, none⟩ = some (.slice (some ⟨blk, off, none⟩) N dA) := ((H1.out.kept K7.out (fun h => TN.out D L1.out.2.2.2.2 h)).cell 2).trans HC2.out
        clear f7 k7 F16 F26 K6 ca R26
        go_wp2_with (refine wpList_load_mid (by rfl) 24 (.tmp 57) (by rfl) blk off (by rfl) (markL z) _ R37.out under_mark rfl MZ.out ?_)
        refine (ladd_any B2 C2 _ z _ F27.out OZ.out).mono ?_
        rintro e w8 ⟨rfl, f8, k8⟩
        have RE : Hid (OrS w1 B1 C1 B2 C2 zs ms (k + 1) w8) := hid ⟨F17.out.kept k8 (fun h => LL.out.1 h) (fun h => LL.out.2.1 h), by rw [HX2.out]; exact f8, K7.out.trans k8 (fun _ _ h => .inr h)⟩
        clear f8 k8 F17 F27 K7 ca7 R37
        go_wp2
        go_roundw
        case rel => exact ⟨k + 1, HLT.out, by go_num, RE⟩
        case measure => have := HLT.out; simp [intOf]; omega
      · obtain rfl : k = N := by omega
        have htk : ms.take k = ms := List.take_of_length_le (by rw [HNM.out]; exact Nat.le_refl _)
        have h0 : 0 < zs.length := by rw [HZL.out]; have := HT.out; omega
        have hos := order_same HZB.out h0 ms
        rw [HNM.out] at hos
        obtain ⟨X, hX⟩ : ∃ x, addsL zs ms = x := ⟨_, rfl⟩
        have HF1 : Hid (FlAt wr B1 C1 X) := hid (by have h := HO.out.f1; rw [htk, hX] at h; exact h)
        have HF2 : Hid (FlAt wr B2 C2 X) := hid (by have h := HO.out.f2; rw [← hos, hX] at h; exact h)
        have HXL : Hid (X.length = t) := hid (by rw [← hX, addsL_len]; exact HZL.out)
        obtain ⟨cn, hcn⟩ : ∃ c, cntB X = c := ⟨_, rfl⟩
        have HC4 : Hid (cn ≤ 4 * k ∧ cn ≤ 8 * t) := hid (by
          have h1 := cnt_adds HZB.out h0 ms
          have h2 := cnt_zero t
          rw [HZS.out] at h2
          have h3 := cntB_le X HF1.out.ok X.length (Nat.le_refl _)
          rw [List.take_length, HXL.out] at h3
          rw [hX, HNM.out] at h1
          rw [← hcn]
          omega)
        obtain ⟨SX, hSX⟩ : ∃ s, st (bytL X) = s := ⟨_, rfl⟩
        have EQX : Hid ((SX.toList == SX.toList) = true) := hid (beq_self_eq_true _)
        have CB1 : Hid (∀ w', Kp Nb wr w' → Calls Try.prog 18 #[.pointer (some ⟨B1, 0, none⟩)] w' fun e w'' => e = .returned (.string SX) ∧ Kp Nb w' w'') := hid (fun w' k => by rw [← hSX]; exact lbytes_any B1 C1 X w' (HF1.out.kept k (fun h => h) (fun h => h)))
        have CB2 : Hid (∀ w', Kp Nb wr w' → Calls Try.prog 18 #[.pointer (some ⟨B2, 0, none⟩)] w' fun e w'' => e = .returned (.string SX) ∧ Kp Nb w' w'') := hid (fun w' k => by rw [← hSX]; exact lbytes_any B2 C2 X w' (HF2.out.kept k (fun h => h) (fun h => h)))
        have CCN : Hid (∀ w', Kp Nb wr w' → Calls Try.prog 16 #[.pointer (some ⟨B1, 0, none⟩)] w' fun e w'' => e = .returned (.int .i64 (cn : Int)) ∧ w' = w'') := hid (fun w' k => by rw [← hcn]; exact lcount_any B1 C1 X w' (HF1.out.kept k (fun h => h) (fun h => h)))
        have CBI : Hid (∀ w', Kp Nb wr w' → Calls Try.prog 15 #[.pointer (some ⟨B1, 0, none⟩)] w' fun e w'' => e = .returned (.int .i64 ((8 * t : Nat) : Int)) ∧ w' = w'') := hid (fun w' k => by rw [← HXL.out]; exact lbits_any B1 C1 X w' (HF1.out.kept k (fun h => h) (fun h => h)))
        have DC1 : Hid (decide ((cn : Int) ≤ ((4 * k : Nat) : Int)) = true) := hid (decide_eq_true (by have := HC4.out; omega))
        have DC1' : Hid (cn ≤ 4 * k) := hid HC4.out.1
        have DC2 : Hid (decide ((cn : Int) ≤ ((8 * t : Nat) : Int)) = true) := hid (decide_eq_true (by have := HC4.out; omega))
        have DC2' : Hid (cn ≤ 8 * t) := hid HC4.out.2
        have WR4 : Hid (IntKind.i64.wrap (4 * (k : Int)) = 4 * (k : Int)) := hid (by have := HN60.out; rw [IntKind.wrap_i64]; omega)
        have DI1 : Hid ((cn : Int) ≤ 4 * (k : Int)) := hid (by have := HC4.out; omega)
        have DI2 : Hid ((cn : Int) ≤ 8 * (t : Int)) := hid (by have := HC4.out; omega)
        clear htk h0 hos hX hcn hSX HO
        go_upto_region 16 with fail
        refine region_vals2 [none, none, some 21, none, none, none, none, none, none, none, none, none, none, none, none, none, none, none, none, none, none, none, none, none, none, none, none, none, none, none, none, none, none, none, none, none, none, none, none, none, none, none, none, none, none, none, none, none, none, none, none, none, none, none, none, none, none, none, none, none, none, some 0, some 1, some 2, some 3, some 4, some 5, some 6, some 7, some 8, some 9, some 10, some 11, some 12, some 13, some 14, some 15, some 16, some 17, some 18, some 19, some 20] [[(3, none)], [(61, some 0)], [(5, none)], [(63, some 2)], [(62, some 1), (64, some 3)], [(65, some 4)], [(3, none)], [(67, some 6)], [(1, none)], [(69, some 8)], [(70, some 9)], [(71, some 10)], [(68, some 7), (72, some 11)], [(66, some 5), (73, some 12)], [(74, some 13)], [(3, none)], [(76, some 15)], [(3, none)], [(78, some 17)], [(77, some 16), (79, some 18)], [(75, some 14), (80, some 19)], [(81, some 20)]] [some 61, some 62, some 63, some 64, some 65, some 66, some 67, some 68, some 69, some 70, some 71, some 72, some 73, some 74, some 75, some 76, some 77, some 78, some 79, some 80, some 81, some 2] [.pointer (some ⟨B1, 0, none⟩), .string SX, .pointer (some ⟨B2, 0, none⟩), .string SX, .bool true, .bool true, .pointer (some ⟨B1, 0, none⟩), .int .i64 (cn : Int), .pointer (some ⟨D, 2, none⟩), .slice yA k dA, .int .i64 (k : Int), .int .i64 ((4 * k : Nat) : Int), .bool true, .bool true, .bool true, .pointer (some ⟨B1, 0, none⟩), .int .i64 (cn : Int), .pointer (some ⟨B1, 0, none⟩), .int .i64 ((8 * t : Nat) : Int), .bool true, .bool true, .bool true] (fun w' => Hid (Kp Nb wr w')) (by kernel_rfl) (by kernel_rfl) (by kernel_rfl) ?hS (VFrom.all (n := 22) (by kernel_rfl) ?hstep) ?hend
        case hstep =>
          refine VFrom.cons (VStep.val _ rfl _ rfl (.pointer (some ⟨B1, 0, none⟩)) rfl trivial (fun ev wq hS he hr => ?_)) ?_
          · have r0 : ev (.tmp 3) = .pointer (some ⟨B1, 0, none⟩) := hr (3, none) (by simp); have hk := he.1; clear hr he
            go_simp
          refine VFrom.cons (VStep.call _ rfl _ rfl (.string SX) rfl trivial 18 #[.pointer (some ⟨B1, 0, none⟩)] (fun ev wq hS he hr => ?_) (fun wq hS => ?_)) ?_
          · have r0 : ev (.tmp 61) = .pointer (some ⟨B1, 0, none⟩) := hr (61, some 0) (by simp); have hk := he.1; have hf := he.2; clear hr he
            go_simp
          · exact (CB1.out wq hS.out).mono fun e w' ⟨h1, h2⟩ => ⟨h1, hid (hS.out.trans h2 (fun _ _ h => h))⟩
          refine VFrom.cons (VStep.val _ rfl _ rfl (.pointer (some ⟨B2, 0, none⟩)) rfl trivial (fun ev wq hS he hr => ?_)) ?_
          · have r0 : ev (.tmp 5) = .pointer (some ⟨B2, 0, none⟩) := hr (5, none) (by simp); have hk := he.1; clear hr he
            go_simp
          refine VFrom.cons (VStep.call _ rfl _ rfl (.string SX) rfl trivial 18 #[.pointer (some ⟨B2, 0, none⟩)] (fun ev wq hS he hr => ?_) (fun wq hS => ?_)) ?_
          · have r0 : ev (.tmp 63) = .pointer (some ⟨B2, 0, none⟩) := hr (63, some 2) (by simp); have hk := he.1; have hf := he.2; clear hr he
            go_simp
          · exact (CB2.out wq hS.out).mono fun e w' ⟨h1, h2⟩ => ⟨h1, hid (hS.out.trans h2 (fun _ _ h => h))⟩
          refine VFrom.cons (VStep.val _ rfl _ rfl (.bool true) rfl trivial (fun ev wq hS he hr => ?_)) ?_
          · have r0 : ev (.tmp 62) = .string SX := hr (62, some 1) (by simp); have r1 : ev (.tmp 64) = .string SX := hr (64, some 3) (by simp); have hk := he.1; clear hr he
            have e1 := EQX.out
            go_simp
          refine VFrom.cons (VStep.val _ rfl _ rfl (.bool true) rfl trivial (fun ev wq hS he hr => ?_)) ?_
          · have r0 : ev (.tmp 65) = .bool true := hr (65, some 4) (by simp); have hk := he.1; clear hr he
            go_simp
          refine VFrom.cons (VStep.val _ rfl _ rfl (.pointer (some ⟨B1, 0, none⟩)) rfl rfl (fun ev wq hS he hr => ?_)) ?_
          · have r0 : ev (.tmp 3) = .pointer (some ⟨B1, 0, none⟩) := hr (3, none) (by simp); have hk := he.1; clear hr he
            go_simp
          refine VFrom.cons (VStep.call _ rfl _ rfl (.int .i64 (cn : Int)) rfl rfl 16 #[.pointer (some ⟨B1, 0, none⟩)] (fun ev wq hS he hr => ?_) (fun wq hS => ?_)) ?_
          · have r0 : ev (.tmp 67) = .pointer (some ⟨B1, 0, none⟩) := hr (67, some 6) (by simp); have hk := he.1; have hf := he.2; clear hr he
            go_simp
          · exact (CCN.out wq hS.out).mono fun e w' ⟨h1, h2⟩ => ⟨h1, by rw [← h2]; exact hS⟩
          refine VFrom.cons (VStep.val _ rfl _ rfl (.pointer (some ⟨D, 2, none⟩)) rfl rfl (fun ev wq hS he hr => ?_)) ?_
          · have r0 : ev (.tmp 1) = .pointer (some ⟨D, 0, none⟩) := hr (1, none) (by simp); have hk := he.1; clear hr he
            go_simp
          refine VFrom.cons (VStep.val _ rfl _ rfl (.slice yA k dA) rfl rfl (fun ev wq hS he hr => ?_)) ?_
          · have r0 : ev (.tmp 69) = .pointer (some ⟨D, 2, none⟩) := hr (69, some 8) (by simp); have hk := he.1; clear hr he
            have c0 := (hS.out.cell (p := ⟨D, 2, none⟩) CA.out (fun h => h))
            go_simp
          refine VFrom.cons (VStep.val _ rfl _ rfl (.int .i64 (k : Int)) rfl rfl (fun ev wq hS he hr => ?_)) ?_
          · have r0 : ev (.tmp 70) = .slice yA k dA := hr (70, some 9) (by simp); have hk := he.1; clear hr he
            go_simp
          refine VFrom.cons (VStep.val _ rfl _ rfl (.int .i64 ((4 * k : Nat) : Int)) rfl rfl (fun ev wq hS he hr => ?_)) ?_
          · have r0 : ev (.tmp 71) = .int .i64 (k : Int) := hr (71, some 10) (by simp); have hk := he.1; clear hr he
            have e1 := HN60.out; have e2 := WR4.out
            go_simp
          refine VFrom.cons (VStep.val _ rfl _ rfl (.bool true) rfl rfl (fun ev wq hS he hr => ?_)) ?_
          · have r0 : ev (.tmp 68) = .int .i64 (cn : Int) := hr (68, some 7) (by simp); have r1 : ev (.tmp 72) = .int .i64 ((4 * k : Nat) : Int) := hr (72, some 11) (by simp); have hk := he.1; clear hr he
            have e1 := DC1.out; have e2 := DC1'.out; have e3 := DI1.out
            go_simp
          refine VFrom.cons (VStep.val _ rfl _ rfl (.bool true) rfl trivial (fun ev wq hS he hr => ?_)) ?_
          · have r0 : ev (.tmp 66) = .bool true := hr (66, some 5) (by simp); have r1 : ev (.tmp 73) = .bool true := hr (73, some 12) (by simp); have hk := he.1; clear hr he
            go_simp
          refine VFrom.cons (VStep.val _ rfl _ rfl (.bool true) rfl trivial (fun ev wq hS he hr => ?_)) ?_
          · have r0 : ev (.tmp 74) = .bool true := hr (74, some 13) (by simp); have hk := he.1; clear hr he
            go_simp
          refine VFrom.cons (VStep.val _ rfl _ rfl (.pointer (some ⟨B1, 0, none⟩)) rfl rfl (fun ev wq hS he hr => ?_)) ?_
          · have r0 : ev (.tmp 3) = .pointer (some ⟨B1, 0, none⟩) := hr (3, none) (by simp); have hk := he.1; clear hr he
            go_simp
          refine VFrom.cons (VStep.call _ rfl _ rfl (.int .i64 (cn : Int)) rfl rfl 16 #[.pointer (some ⟨B1, 0, none⟩)] (fun ev wq hS he hr => ?_) (fun wq hS => ?_)) ?_
          · have r0 : ev (.tmp 76) = .pointer (some ⟨B1, 0, none⟩) := hr (76, some 15) (by simp); have hk := he.1; have hf := he.2; clear hr he
            go_simp
          · exact (CCN.out wq hS.out).mono fun e w' ⟨h1, h2⟩ => ⟨h1, by rw [← h2]; exact hS⟩
          refine VFrom.cons (VStep.val _ rfl _ rfl (.pointer (some ⟨B1, 0, none⟩)) rfl rfl (fun ev wq hS he hr => ?_)) ?_
          · have r0 : ev (.tmp 3) = .pointer (some ⟨B1, 0, none⟩) := hr (3, none) (by simp); have hk := he.1; clear hr he
            go_simp
          refine VFrom.cons (VStep.call _ rfl _ rfl (.int .i64 ((8 * t : Nat) : Int)) rfl rfl 15 #[.pointer (some ⟨B1, 0, none⟩)] (fun ev wq hS he hr => ?_) (fun wq hS => ?_)) ?_
          · have r0 : ev (.tmp 78) = .pointer (some ⟨B1, 0, none⟩) := hr (78, some 17) (by simp); have hk := he.1; have hf := he.2; clear hr he
            go_simp
          · exact (CBI.out wq hS.out).mono fun e w' ⟨h1, h2⟩ => ⟨h1, by rw [← h2]; exact hS⟩
          refine VFrom.cons (VStep.val _ rfl _ rfl (.bool true) rfl rfl (fun ev wq hS he hr => ?_)) ?_
          · have r0 : ev (.tmp 77) = .int .i64 (cn : Int) := hr (77, some 16) (by simp); have r1 : ev (.tmp 79) = .int .i64 ((8 * t : Nat) : Int) := hr (79, some 18) (by simp); have hk := he.1; clear hr he
            have e1 := DC2.out; have e2 := DC2'.out; have e3 := DI2.out
            go_simp
          refine VFrom.cons (VStep.val _ rfl _ rfl (.bool true) rfl trivial (fun ev wq hS he hr => ?_)) ?_
          · have r0 : ev (.tmp 75) = .bool true := hr (75, some 14) (by simp); have r1 : ev (.tmp 80) = .bool true := hr (80, some 19) (by simp); have hk := he.1; clear hr he
            go_simp
          refine VFrom.cons (VStep.val _ rfl _ rfl (.bool true) rfl trivial (fun ev wq hS he hr => ?_)) ?_
          · have r0 : ev (.tmp 81) = .bool true := hr (81, some 20) (by simp); have hk := he.1; clear hr he
            go_simp
          exact VFrom.nil
        case hS => exact hid (Kp.refl Nb wr).drew
        case hend =>
          intro wy hy
          have K9 := hid (KW.out.trans hy.out (fun _ _ h => h))
          clear hy
          simp only [putAll, List.zip_cons_cons, List.zip_nil_right, List.foldl_cons, List.foldl_nil, Act.put, List.setIfInBounds_toArray, List.set_cons_zero, List.set_cons_succ]
          go_wp2
          go_ret
          exact ⟨rfl, K9.out⟩

end Go.Proofs.Ytpgiinogfmhfiaa
