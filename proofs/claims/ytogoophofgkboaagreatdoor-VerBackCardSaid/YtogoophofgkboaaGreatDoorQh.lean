/-
  Of the texts DtU, DtAz what is used. No condition but what each says.
-/
import Derived.Test.YtogoophofgkboaaGreatDoorQe
import Derived.Test.YtogoophofgkboaaGreatDoorQg
namespace Go.Proofs.YtogoophofgkboaaGreatDoor
section
open Go.RowKit
theorem bs_toList (l : List UInt8) : (bs l).toList = l := ByteArray.toList_mk _
def PaR (w : World) (N : Nat) (c : List RunQ) (u i : Value) (wr : World) : Prop := ∃ k : Nat, k ≤ c.length ∧ i = .int .i64 k ∧ Hid (wr.ownsRow (N + 1) 38 3 u (c.take k).length (flatR runL (c.take k))) ∧ Hid (Blk wr N 9 (c.map txV)) ∧ Hid (Kp Nb w wr)
set_option maxRecDepth 100000 in
set_option maxHeartbeats 4000000 in
theorem parse_any (c : List RunQ) (w : World) (hr : rightC c = true) (hl : c.length ≤ 1000) (hm : Mx w) (ht : Tab w) :
    Calls Tryz.prog 99 #[.string (bs (textC c))] w fun e w' => ∃ v', e = .returned (.tuple #[v', .bool true]) ∧ ClSl w' v' c ∧ OwnV w v' w' ∧ Kp Nb w w' := by
  by_cases h0 : c.length = 0
  · have e0 : c = [] := List.length_eq_zero_iff.1 h0
    subst e0
    have e : (bs (textC [])) = ⟨#[45]⟩ := rfl
    rw [e]
    clear hm ht hr hl h0 e
    go_enter Tryz.func99, Tryz.ntmps99
    go_wp2
    go_ret2
    exact ⟨_, rfl, cl_nil _, (fun g hg => by simp [Value.ownBlock] at hg), Kp.refl _ _⟩
  · obtain ⟨L, hL⟩ : ∃ L, c.length = L := ⟨_, rfl⟩
    have HLE := hid hL
    have HBG : Hid (L ≤ 1000) := hid (by omega)
    have HG : Hid (∀ q ∈ c, goodR q = true) := hid (right_good hr)
    have HMX := hid hm
    have HTB := hid ht
    have hok : ∀ q ∈ c, RunOk q := fun q hq => by have := goodR_of.1 (HG.out q hq); unfold RunOk I64; omega
    have HOKS := hid hok
    obtain ⟨S, hS⟩ : ∃ S, bs (textC c) = S := ⟨_, rfl⟩
    have hne := textC_ne hr h0
    obtain ⟨N, hN⟩ : ∃ N, w.heap.size = N := ⟨_, rfl⟩
    obtain ⟨W, hW⟩ : ∃ W, W = w.alloc (.cells (c.map txV).toArray 9) := ⟨_, rfl⟩
    have HB0 : Hid (Blk W N 9 (c.map txV)) := hid (by rw [hW, ← hN]; exact Blk.new w _ _)
    have K0 : Hid (Kp Nb w W) := hid (by rw [hW]; exact (Kp.refl Nb w).alloc _)
    have HNW : Hid (w.heap.size = N) := hid hN
    have CS : Hid (Calls Tryz.prog 112 #[.string S, .string ⟨#[32]⟩] w fun e w' => e = .returned (.slice (some ⟨N, 0, none⟩) L L) ∧ w' = W) := hid (by
      obtain ⟨s1, s2⟩ := textC_split hr h0
      obtain ⟨m, hm⟩ := hm
      have hsz : (bs (textC c)).size < 4294967281 := by
        have e3 : textC c = Lib.join (c.map textR) [32] := by unfold textC; rw [hr, if_neg h0]; rfl
        have := join_len [32] (c.map textR) (fun x hx => by
          obtain ⟨q, hq, rfl⟩ := List.mem_map.1 hx
          exact textR_len q (hok q hq))
        rw [List.length_map] at this
        simp only [List.length_singleton] at this
        show (textC c).toArray.size < _
        rw [List.size_toArray, e3]
        omega
      have h := Tryz.strings_Split (bs (textC c)) (bs [32]) m w hsz hm (by decide)
      rw [s1, s2, hS, hN, hL] at h
      rw [hW]
      exact h)
    have CT : Hid (∀ v' wx, ClSl wx v' c → Tab wx → Calls Tryz.prog 78 #[v'] wx fun e w' => e = .returned (.string S) ∧ Kp Nb wx w') := hid (fun v' wx h1 h2 => by rw [← hS]; exact dtext_any v' c wx h1 (by omega) h2)
    have hq : (S.toList == [45]) = false := by
      rw [← hS, bs_toList, beq_eq_false_iff_ne]
      exact fun e => hne (by rw [e])
    rw [hS] at hne ⊢
    clear hm ht hr hl h0 hL hok hS hN hW
    go_enter Tryz.func99, Tryz.ntmps99
    go_wp2_with fail
    refine CS.out.mono ?_
    rintro r w1 ⟨rfl, rfl⟩
    clear hne hq
    go_wp2_with fail
    go_loopw [4, 14] (PaR w N c) (fun _ i _ => L - (intOf i).toNat)
    case atStart => exact ⟨0, Nat.zero_le _, rfl, hid (by rw [List.take_zero]; exact World.ownsRow_nil _ _ _ _), HB0, K0⟩
    case round =>
      obtain ⟨k, hk, rfl, HO, HB, HK⟩ := hrel
      rw [HLE.out] at hk
      obtain ⟨a4, c4, rfl⟩ := own_shape HO.out
      have htl : (c.take k).length = k := by rw [List.length_take, HLE.out]; omega
      by_cases hlt : k < L
      · have HLT := hid hlt
        obtain ⟨⟨qn, qf, qt⟩, hq⟩ : ∃ q, runAt c k = q := ⟨_, rfl⟩
        have hkc : k < c.length := by rw [HLE.out]; exact hlt
        have HGQ : Hid (goodR (qn, qf, qt) = true) := hid (by rw [← hq]; exact HG.out _ (runAt_mem hkc))
        have HSN : Hid (c.take (k + 1) = c.take k ++ [(qn, qf, qt)]) := hid (by rw [take_snocR c k hkc, hq])
        obtain ⟨tv, htv⟩ : ∃ s, bs (textR (qn, qf, qt)) = s := ⟨_, rfl⟩
        have ck : wr.cell? ⟨N, k, none⟩ = some (.string tv) := by
          rw [HB.out.cell k, List.getElem?_map]
          have : c[k]? = some (qn, qf, qt) := by
            rw [List.getElem?_eq_getElem hkc]
            unfold runAt at hq
            rw [List.getElem?_eq_getElem hkc] at hq
            rw [← hq]; rfl
          rw [this, ← htv]; rfl
        have CP : Hid (∀ wx, Mx wx → Calls Tryz.prog 113 #[.string tv] wx fun e w' => e = .returned (.tuple #[runV (qn, qf, qt), .bool true]) ∧ Kp Nb wx w') := hid (fun wx h => by rw [← htv]; exact parserun_any _ wx HGQ.out h)
        have HM2 := hid (HMX.out.kept HK.out)
        clear hq htv hkc
        rw [htl]
        go_wp2_with fail
        refine (CP.out wr HM2.out).mono ?_
        rintro r w6 ⟨rfl, k6⟩
        have HO6 := hid (ownsRow_kpD HO.out k6)
        have HB6 := hid (HB.out.kept k6 (fun h => h))
        have HK6 := hid (HK.out.trans k6 (fun _ _ h => h))
        clear k6 ck
        obtain ⟨M, hM⟩ : ∃ M, w6.heap.size = M := ⟨_, rfl⟩
        obtain ⟨W8, hW8⟩ : ∃ W, W = (w6.alloc (.cells (runL (0, 0, 0)).toArray 38)).setCells M 0 (runL (qn, qf, qt)) := ⟨_, rfl⟩
        have hz := Blk.new w6 38 (runL (0, 0, 0))
        rw [hM] at hz
        have KW8 : Hid (Kp Nb w6 W8) := hid (by rw [hW8]; exact Kp.setCells (fun h => absurd h (by omega)) _ 0 _ ((Kp.refl Nb w6).alloc _))
        have TH := hid (run_there (q := (qn, qf, qt)) hz)
        have HZ8 : Hid (Blk W8 M 38 (runL (qn, qf, qt))) := hid (by rw [hW8]; exact row_set hz rfl)
        have RZ := hid (range_ofR HZ8.out)
        have HO8 := hid (ownsRow_kpD HO6.out KW8.out)
        have HB8 := hid (HB6.out.kept KW8.out (fun h => h))
        have HK8 := hid (HK6.out.trans KW8.out (fun _ _ h => h))
        have MK := hid (make_run1 W8 qn qf qt)
        obtain ⟨fs, hfs⟩ := under_run
        obtain ⟨i0, zz, hi, hz0, hz1, hz2, hz3⟩ := run_info3
        rw [htl] at HO8
        have B2 : Hid (k + [(qn, qf, qt)].length ≤ maxLen ∧ (k + [(qn, qf, qt)].length) * 24 ≤ 140737488355328 ∧ N + 1 ≤ (W8.alloc (.cells #[.int .i64 qn, .int .i64 qf, .int .i64 qt] 38 (0, 0))).heap.size) := hid (by
          have h1 := HB8.out.lt
          have h2 := ((Kp.refl Nb W8).alloc (.cells #[.int .i64 qn, .int .i64 qf, .int .i64 qt] 38 (0, 0))).size
          refine ⟨?_, ?_, by omega⟩ <;> rw [List.length_singleton]
          · unfold maxLen; have := HBG.out; omega
          · have := HBG.out; omega)
        clear hz
        go_upto_region 8 with (first
          | (refine wpList_store_mid (by rfl) 38 (.tmp 7) (.tmp 21) (by rfl) M 0 (runL (qn, qf, qt)).toArray (by rfl) (by rfl) TH.out (run_infoA (qn, qf, qt)) (run_one (qn, qf, qt)) ?_))
        rw [show (w6.alloc (.cells #[.int .i64 0, .int .i64 0, .int .i64 0] 38)).setCells M 0 (runL (qn, qf, qt)) = W8 from hW8.symm]
        clear hW8 hM TH
        go_wp2_with (first
          | (refine wpList_load_mid (by rfl) 38 (.tmp 7) (by rfl) M 0 (by rfl) (runL (qn, qf, qt)) _ RZ.out hfs rfl (run_infoL (qn, qf, qt)) ?_)
          | (refine wpList_val (by rfl) _ _ (exec_buildSliceD rfl (qs := #[(0, .agg #[.int .i64 qn, .int .i64 qf, .int .i64 qt])]) (by simp [Act.eval, Act.put]) MK.out) ?_)
          | (at_builtin; refine wpList_append_rows (f := runL) (z := (0, 0, 0)) (c := 3) rfl _ _ 25 rfl (N + 1) 38 i0 zz 24 under_clock hi hz0 hz1 hz2 hz3 (by decide) _ _ _ rfl (ownsRow_kpD HO8.out ((Kp.refl Nb _).alloc _)) _ [(qn, qf, qt)] rfl (rows_oneR (Blk.new _ _ _)) (fun x hx => rfl) (fun x _ => run_one' x) B2.out.1 B2.out.2.1 B2.out.2.2 ?_))
        intro v10 w10 hown hgrow
        have HK10 : Hid (Kp Nb w w10) := hid ((HK8.out.trans ((Kp.refl Nb W8).alloc (.cells #[.int .i64 qn, .int .i64 qf, .int .i64 qt] 38 (0, 0))) (fun _ _ h => h)).grown hgrow (fun g hg h => by have := (row_cells HO8.out hg).1; have := HNW.out; omega))
        have HB10 : Hid (Blk w10 N 9 (c.map txV)) := hid ((hgrow.block N (HB8.out.alloc _).lt (fun h => by have := (row_cells HO8.out h.symm).1; omega)).trans (HB8.out.alloc _))
        have HO10 : Hid (w10.ownsRow (N + 1) 38 3 v10 (c.take (k + 1)).length (flatR runL (c.take (k + 1)))) := hid (by rw [HSN.out, List.length_append, htl, flatR_append]; exact hown)
        obtain ⟨a10, c10, rfl⟩ := own_shape hown
        clear hown hgrow
        have hb9 := HBG.out
        go_wp2
        go_roundw
        case rel => exact ⟨k + 1, by rw [HLE.out]; exact HLT.out, by go_num, HO10, HB10, HK10⟩
        case measure => have := HLT.out; simp [intOf]; omega
      · obtain rfl : k = L := by omega
        have hck : c.take k = c := by rw [← HLE.out, List.take_length]
        have HOX := HO.out
        rw [hck] at HOX
        have HCL : Hid (ClSl wr (.slice a4 c.length c4) c) := hid (cl_owned HOX HOKS.out)
        have HOW : Hid (∀ g, (Value.slice a4 c.length c4).ownBlock = some g → w.heap.size ≤ g ∧ g < wr.heap.size) := hid (fun g hg => by obtain ⟨h1, o, ho, -⟩ := row_cells HOX hg; exact ⟨by have := HNW.out; omega, (Array.getElem?_eq_some_iff.1 ho).1⟩)
        have C9 := hid (CT.out _ wr HCL.out (HTB.out.kept HK.out))
        rw [hck]
        rw [HLE.out] at C9 HCL HOW
        clear HOX
        rw [HLE.out]
        go_wp2_with fail
        refine C9.out.mono ?_
        rintro r w9 ⟨rfl, k9⟩
        have HK9 := hid (HK.out.trans k9 (fun _ _ h => h))
        have HC9 := hid (HCL.out.kept k9)
        have HS9 := hid k9.size
        clear k9
        go_wp2
        go_ret2
        exact ⟨_, rfl, HC9.out, fun g hg => by have h1 := HOW.out g hg; have h2 := HS9.out; exact ⟨h1.1, by omega⟩, HK9.out⟩
end
section
open Go.RowKit
def TxAt (w : World) (g : Nat) (xs : List (List UInt8)) : Prop := ∀ k, k < xs.length → w.cell? ⟨g, k, none⟩ = some (.string (bs (xs[k]?.getD [])))
theorem TxAt.kept {w w' : World} {g : Nat} {xs : List (List UInt8)} (h : TxAt w g xs) (k : Kp Nb w w') : TxAt w' g xs := fun i hi => k.cell (h i hi) (fun h => h)
theorem tx_cells {B : Nat} {w : World} {v : Value} {xs : List (List UInt8)} {n : Nat} (h : TxOwn B w v xs) (hn : xs.length = n) (h0 : 0 < n) : ∃ g cap, v = .slice (some ⟨g, 0, none⟩) n cap ∧ n ≤ cap ∧ cap ≤ maxLen ∧ TxAt w g xs := by
  subst hn
  obtain ⟨g, cap, vs, e0, hbg, hg, hnc, hcm, hvl, hvt⟩ := rowblk h h0
  refine ⟨g, cap, e0, hnc, hcm, fun k hk => ?_⟩
  rw [hg.cell k, ← List.getElem?_take_of_lt (show k < xs.length * 1 by omega), hvt, flat_tx, List.getElem?_map, List.getElem?_eq_getElem hk]
  rfl
theorem rsplit_at (s : List UInt8) (c : UInt8) (n : Int) (hn : (c.toNat : Int) = n) (w : World) (hl : s.length ≤ 1000000) :
    Calls Tryz.prog 75 #[.string (bs s), .int .u8 n] w fun e w' => ∃ v', e = .returned v' ∧ TxOwn w.heap.size w' v' (splL c s) ∧ Kp Nb w w' := by
  rw [← hn]
  exact rsplit_any s c w hl
theorem rnumber_at (s : List UInt8) (V : Value) (hV : numV s = V) (w : World) (hl : s.length ≤ 1000000) :
    Calls Tryz.prog 100 #[.string (bs s)] w fun e w' => e = .returned V ∧ w = w' := by
  rw [← hV]
  exact (rnumber_any s w hl).mono fun e w' h => ⟨h.1, h.2.symm⟩
theorem numV_none {s : List UInt8} (h : numT s = none) : numV s = .tuple #[.int .i64 0, .bool false] := by unfold numV; rw [h]
theorem numV_some {s : List UInt8} {n : Nat} (h : numT s = some n) : numV s = .tuple #[.int .i64 (n : Int), .bool true] := by unfold numV; rw [h]
theorem numV_any (s : List UInt8) : ∃ x y, numV s = .tuple #[.int .i64 x, .bool y] := by
  unfold numV
  split
  · exact ⟨_, _, rfl⟩
  · exact ⟨_, _, rfl⟩
theorem numT_lt {s : List UInt8} {n : Nat} (h : numT s = some n) : n < 1000000000000000000 := by
  unfold numT at h
  split at h
  · cases h
  · rename_i hc
    have h1 := decFrom_lt s n h
    have h2 : s.length ≤ 18 := by
      rcases Nat.lt_or_ge 18 s.length with h | h
      · exact (hc (.inr (.inl h))).elim
      · exact h
    have h3 := Nat.pow_le_pow_right (n := 10) (by decide) h2
    have e : (10 : Nat) ^ 18 = 1000000000000000000 := by decide
    omega
theorem prsR_ne {w : List UInt8} (h : (splL 58 w).length ≠ 2) : prsR w = none := by
  unfold prsR
  split
  · rename_i p0 p1 hp
    rw [hp] at h
    exact (h rfl).elim
  · rfl
theorem prsR_two {w : List UInt8} {p0 p1 : List UInt8} (h : splL 58 w = [p0, p1]) : prsR w = (numT p0).bind fun a => prsQ (splL 45 p1) a := by
  unfold prsR
  rw [h]
theorem spl_some (c : UInt8) (s : List UInt8) : ∃ q0 R, splL c s = q0 :: R := by
  cases h : splL c s with
  | nil => exfalso; have := congrArg List.length h; unfold splL at this; simp at this
  | cons q0 R => exact ⟨q0, R, rfl⟩
def ParOut (w : World) (x : Option (List RunQ)) (e : Ending) (w' : World) : Prop := ∃ v', e = .returned (.tuple #[v', .bool x.isSome]) ∧ ClSl w' v' (x.getD []) ∧ Kp Nb w w'
def RprR (w1 : World) (ws : List (List UInt8)) (i u : Value) (wr : World) : Prop := ∃ (k : Nat) (c : List RunQ), k ≤ ws.length ∧ i = .int .i64 k ∧ Hid (prsL (ws.take k) = some c) ∧ Hid (wr.ownsRow w1.heap.size 38 3 u c.length (flatR runL c)) ∧ Hid (∀ q ∈ c, RunOk q) ∧ Hid (Kp Nb w1 wr)
theorem take_atW {s : List (List UInt8)} {k : Nat} (hk : k < s.length) : s.take (k + 1) = s.take k ++ [s[k]?.getD []] := by
  rw [List.take_succ_eq_append_getElem hk, List.getElem?_eq_getElem hk]
  rfl
theorem prs_next {ws : List (List UInt8)} {k : Nat} {c : List RunQ} (hk : k < ws.length) (h : prsL (ws.take k) = some c) : prsL (ws.take (k + 1)) = (prsR (ws[k]?.getD [])).map (fun r => c ++ [r]) := by
  rw [take_atW hk]
  exact prsL_snoc _ _ c h
theorem prs_bad {ws : List (List UInt8)} {k : Nat} (hk : k < ws.length) (h : prsR (ws[k]?.getD []) = none) : prsL ws = none := by
  have e : ws = ws.take k ++ (ws[k]?.getD [] :: ws.drop (k + 1)) := by
    rw [List.getElem?_eq_getElem hk, Option.getD_some, ← List.drop_eq_getElem_cons hk, List.take_append_drop]
  rw [e]
  exact prsL_none _ _ _ h
set_option maxRecDepth 100000 in
set_option maxHeartbeats 16000000 in
theorem rparse_any (s : List UInt8) (w : World) (hl : s.length ≤ 1000) : Calls Tryz.prog 77 #[.string (bs s)] w (ParOut w (parT s)) := by
  by_cases h0 : s = [45]
  · subst h0
    have e : (bs [45]) = ⟨#[45]⟩ := rfl
    have HPT : Hid (parT [45] = some []) := hid rfl
    rw [e]
    clear e
    go_enter Tryz.func77, Tryz.ntmps77
    go_wp2
    go_ret2
    rw [HPT.out]
    exact ⟨_, rfl, cl_nil _, Kp.refl _ _⟩
  · obtain ⟨ws, hws⟩ : ∃ ws, splL 32 s = ws := ⟨_, rfl⟩
    have HPT0 : parT s = (prsL ws).bind fun c => if rightC c then some c else none := by unfold parT; rw [if_neg h0, hws]
    have hwl : ws.length ≤ 1001 := by rw [← hws]; unfold splL; rw [List.length_append, List.length_singleton]; have := (splS_len 32 s).1; omega
    have hw0 : 0 < ws.length := by rw [← hws]; unfold splL; simp
    have HMEM : Hid (∀ x ∈ ws, x.length ≤ 1000) := hid (fun x hx => by have := spl_mem (c := 32) (s := s) (x := x) (by rw [hws]; exact hx); omega)
    have CS := hid (rsplit_at s 32 32 rfl w (by omega))
    rw [hws] at CS
    have hq : ((bs s).toList == [45]) = false := by
      rw [bs_toList, beq_eq_false_iff_ne]
      exact h0
    have hne : bs s ≠ ⟨#[45]⟩ := fun e => h0 (by have := congrArg (fun x : ByteArray => x.data.toList) e; exact this)
    obtain ⟨S, hS⟩ : ∃ S, bs s = S := ⟨_, rfl⟩
    rw [hS] at CS hq hne ⊢
    obtain ⟨PT, hPT⟩ : ∃ x, parT s = x := ⟨_, rfl⟩
    rw [hPT] at HPT0 ⊢
    have HPT := hid HPT0
    clear HPT0 hPT hS hws h0 hl
    obtain ⟨L, hL⟩ : ∃ L, ws.length = L := ⟨_, rfl⟩
    have HLE := hid hL
    rw [hL] at hwl hw0
    go_enter Tryz.func77, Tryz.ntmps77
    go_wp2_with fail
    refine CS.out.mono ?_
    rintro r w1 ⟨vw, rfl, ow, k1⟩
    obtain ⟨gw, cw, rfl, hcw, hcm, htw⟩ := tx_cells ow hL hw0
    have HW := hid htw
    have K1 := hid k1
    unfold maxLen at hcm
    clear ow k1 htw CS hne hq hL
    go_wp2_with fail
    go_loopw [21, 4] (RprR w1 ws) (fun i _ _ => L - (intOf i).toNat)
    case atStart => exact ⟨0, [], Nat.zero_le _, rfl, hid rfl, hid ⟨by simp [flatR], .inl ⟨rfl, rfl⟩⟩, hid (by simp), hid (Kp.refl _ _)⟩
    case round =>
      obtain ⟨k, c, hk, rfl, HP, HO, HOK, HK⟩ := hrel
      rw [HLE.out] at hk
      obtain ⟨a4, c4, rfl⟩ := own_shape HO.out
      have hcl : c.length = k := by rw [prsL_len _ _ HP.out, List.length_take, HLE.out]; omega
      have HCL := hid hcl
      rw [hcl] at HO
      rw [hcl]
      by_cases hlt : k < L
      · have HLT := hid hlt
        have hkc : k < ws.length := by rw [HLE.out]; exact hlt
        have hbad := fun h => prs_bad (ws := ws) hkc h
        have hnx := prs_next hkc HP.out
        have ck := (HW.out.kept HK.out) k hkc
        obtain ⟨wk, hwk⟩ : ∃ x, ws[k]?.getD [] = x := ⟨_, rfl⟩
        have hmw : wk.length ≤ 1000 := HMEM.out wk (by rw [← hwk, List.getElem?_eq_getElem hkc]; exact List.getElem_mem hkc)
        rw [hwk] at hbad hnx ck
        have HBAD : Hid (prsR wk = none → PT = none) := hid (fun h => by rw [HPT.out, hbad h]; rfl)
        have HNX : Hid (∀ r, prsR wk = some r → prsL (ws.take (k + 1)) = some (c ++ [r])) := hid (fun r h => by rw [hnx, h]; rfl)
        have CS := hid (rsplit_at wk 58 58 rfl wr (by omega))
        obtain ⟨tv, htv⟩ : ∃ x, bs wk = x := ⟨_, rfl⟩
        rw [htv] at CS ck
        have HMW := hid hmw
        clear hbad hnx hwk hkc htv hmw hcl HP
        go_wp2_with fail
        refine CS.out.mono ?_
        rintro r w2 ⟨v7, rfl, o7, k2⟩
        have HK2 := hid (HK.out.trans k2 (fun _ _ h => h))
        have HO2 := hid (ownsRow_kpD HO.out k2)
        have O7 := hid o7
        have HEND : Hid (Kp Nb w w2) := hid (K1.out.trans HK2.out (fun _ _ h => h))
        clear k2 o7 CS ck HK HO
        by_cases hp2 : (splL 58 wk).length = 2
        · obtain ⟨p0, p1, hP⟩ : ∃ p0 p1, splL 58 wk = [p0, p1] := by
            rcases h : splL 58 wk with _ | ⟨p0, _ | ⟨p1, _ | ⟨p2, R⟩⟩⟩
            · rw [h] at hp2; simp at hp2
            · rw [h] at hp2; simp at hp2
            · exact ⟨_, _, rfl⟩
            · rw [h] at hp2; simp at hp2
          have hR := prsR_two hP
          have hm0 : p0.length ≤ 1000 := by have := spl_mem (c := 58) (s := wk) (x := p0) (by rw [hP]; simp); have := HMW.out; omega
          have hm1 : p1.length ≤ 1000 := by have := spl_mem (c := 58) (s := wk) (x := p1) (by rw [hP]; simp); have := HMW.out; omega
          rw [hP] at O7
          obtain ⟨g7, c7, rfl, hc7, hm7, ht7⟩ := tx_cells O7.out (n := 2) rfl (by decide)
          have d0 : w2.cell? ⟨g7, 0, none⟩ = some (.string (bs p0)) := ht7 0 (by simp)
          have d1 : w2.cell? ⟨g7, 1, none⟩ = some (.string (bs p1)) := ht7 1 (by simp)
          have D0 := hid d0
          have CS2 := hid (rsplit_at p1 45 45 rfl w2 (by omega))
          obtain ⟨q0, QR, hQ⟩ := spl_some 45 p1
          rw [hQ] at CS2 hR
          have hmq : ∀ q ∈ q0 :: QR, q.length ≤ 1000 := fun q hq => by have := spl_mem (c := 45) (s := p1) (x := q) (by rw [hQ]; exact hq); omega
          have HMQ := hid hmq
          have HR := hid hR
          have HM0 := hid hm0
          obtain ⟨tp0, htp0⟩ : ∃ x, bs p0 = x := ⟨_, rfl⟩
          obtain ⟨tp1, htp1⟩ : ∃ x, bs p1 = x := ⟨_, rfl⟩
          have HTP := hid htp0
          rw [htp0] at D0 d0
          rw [htp1] at CS2 d1
          unfold maxLen at hm7
          clear hP hR hm0 hm1 ht7 hQ hmq htp0 htp1 hp2 O7 d0
          go_wp2_with fail
          refine CS2.out.mono ?_
          rintro r w3 ⟨v8, rfl, o8, k3⟩
          have HK3 := hid (HK2.out.trans k3 (fun _ _ h => h))
          have HO3 := hid (ownsRow_kpD HO2.out k3)
          have d0 : w3.cell? ⟨g7, 0, none⟩ = some (.string tp0) := k3.cell D0.out (fun h => h)
          have O8 := hid o8
          have HEND3 : Hid (Kp Nb w w3) := hid (K1.out.trans HK3.out (fun _ _ h => h))
          clear k3 o8 CS2 d1 D0 HK2 HO2 HEND
          have hq0 : q0.length ≤ 1000 := HMQ.out q0 (by simp)
          obtain ⟨tq0, htq0⟩ : ∃ x, bs q0 = x := ⟨_, rfl⟩
          cases hna : numT p0 with
          | none =>
            have HNO : Hid (PT = none) := hid (HBAD.out (by rw [HR.out, hna]; rfl))
            obtain ⟨x1, y1, hxy⟩ := numV_any q0
            have CN0 : Hid (∀ wx, Calls Tryz.prog 100 #[.string tp0] wx fun e w' => e = .returned (.tuple #[.int .i64 0, .bool false]) ∧ wx = w') := hid (fun wx => by rw [← HTP.out]; exact rnumber_at p0 _ (numV_none hna) wx (by have := HM0.out; omega))
            have CN1 : Hid (∀ wx, Calls Tryz.prog 100 #[.string tq0] wx fun e w' => e = .returned (.tuple #[.int .i64 x1, .bool y1]) ∧ wx = w') := hid (fun wx => by rw [← htq0]; exact rnumber_at q0 _ hxy wx (by omega))
            obtain ⟨nq, hnq⟩ : ∃ n, (q0 :: QR).length = n := ⟨_, rfl⟩
            have hnq1 : 0 < nq := by rw [← hnq]; simp
            obtain ⟨g8, c8, rfl, hc8, hm8, ht8⟩ := tx_cells O8.out hnq (by omega)
            have d2 : w3.cell? ⟨g8, 0, none⟩ = some (.string tq0) := by rw [← htq0]; exact ht8 0 (by simp)
            unfold maxLen at hm8
            clear O8 ht8 hnq hna hxy htq0 hq0
            go_wp2_with fail
            refine (CN0.out _).mono ?_
            rintro r w4 ⟨rfl, rfl⟩
            go_wp2_with fail
            refine (CN1.out _).mono ?_
            rintro r w5 ⟨rfl, rfl⟩
            go_wp2
            go_ret2
            rw [HNO.out]
            exact ⟨_, rfl, cl_nil _, HEND3.out⟩
          | some a =>
            have ha := numT_lt hna
            cases hnb : numT q0 with
            | none =>
              have HNO : Hid (PT = none) := hid (HBAD.out (by rw [HR.out, hna, Option.bind_some]; rcases QR with _ | ⟨q1, _ | ⟨q2, R⟩⟩ <;> simp [prsQ, hnb]))
              have hxy := numV_none hnb
              have CN0 : Hid (∀ wx, Calls Tryz.prog 100 #[.string tp0] wx fun e w' => e = .returned (.tuple #[.int .i64 (a : Int), .bool true]) ∧ wx = w') := hid (fun wx => by rw [← HTP.out]; exact rnumber_at p0 _ (numV_some hna) wx (by have := HM0.out; omega))
              have CN1 : Hid (∀ wx, Calls Tryz.prog 100 #[.string tq0] wx fun e w' => e = .returned (.tuple #[.int .i64 (0 : Int), .bool false]) ∧ wx = w') := hid (fun wx => by rw [← htq0]; exact rnumber_at q0 _ hxy wx (by omega))
              obtain ⟨nq, hnq⟩ : ∃ n, (q0 :: QR).length = n := ⟨_, rfl⟩
              have hnq1 : 0 < nq := by rw [← hnq]; simp
              obtain ⟨g8, c8, rfl, hc8, hm8, ht8⟩ := tx_cells O8.out hnq (by omega)
              have d2 : w3.cell? ⟨g8, 0, none⟩ = some (.string tq0) := by rw [← htq0]; exact ht8 0 (by simp)
              unfold maxLen at hm8
              clear O8 ht8 hnq hna hxy htq0 hq0 hnb
              go_wp2_with fail
              refine (CN0.out _).mono ?_
              rintro r w4 ⟨rfl, rfl⟩
              go_wp2_with fail
              refine (CN1.out _).mono ?_
              rintro r w5 ⟨rfl, rfl⟩
              go_wp2
              go_ret2
              rw [HNO.out]
              exact ⟨_, rfl, cl_nil _, HEND3.out⟩
            | some b =>
              have hb := numT_lt hnb
              have hxy := numV_some hnb
              rcases QR with _ | ⟨q1, _ | ⟨q2, R⟩⟩
              · have HNR := hid (HNX.out ((a : Int), (b : Int), (b : Int)) (by rw [HR.out, hna, Option.bind_some]; dsimp only [prsQ]; rw [hnb]; rfl))
                have CN0 : Hid (∀ wx, Calls Tryz.prog 100 #[.string tp0] wx fun e w' => e = .returned (.tuple #[.int .i64 (a : Int), .bool true]) ∧ wx = w') := hid (fun wx => by rw [← HTP.out]; exact rnumber_at p0 _ (numV_some hna) wx (by have := HM0.out; omega))
                have CN1 : Hid (∀ wx, Calls Tryz.prog 100 #[.string tq0] wx fun e w' => e = .returned (.tuple #[.int .i64 (b : Int), .bool true]) ∧ wx = w') := hid (fun wx => by rw [← htq0]; exact rnumber_at q0 _ hxy wx (by omega))
                obtain ⟨g8, c8, rfl, hc8, hm8, ht8⟩ := tx_cells O8.out (n := 1) rfl (by decide)
                have d2 : w3.cell? ⟨g8, 0, none⟩ = some (.string tq0) := by rw [← htq0]; exact ht8 0 (by simp)
                unfold maxLen at hm8
                clear O8 ht8 hna hxy htq0 hq0 hnb
                go_wp2_with fail
                refine (CN0.out _).mono ?_
                rintro r w4 ⟨rfl, rfl⟩
                go_wp2_with fail
                refine (CN1.out _).mono ?_
                rintro r w5 ⟨rfl, rfl⟩
                obtain ⟨M, hM⟩ : ∃ M, w3.heap.size = M := ⟨_, rfl⟩
                obtain ⟨W8, hW8⟩ : ∃ W, W = (w3.alloc (.cells (runL (0, 0, 0)).toArray 38)).setCells M 0 (runL ((a : Int), (b : Int), (b : Int))) := ⟨_, rfl⟩
                have hz := Blk.new w3 38 (runL (0, 0, 0))
                rw [hM] at hz
                have KW8 : Hid (Kp Nb w3 W8) := hid (by rw [hW8]; exact Kp.setCells (fun h => absurd h (by omega)) _ 0 _ ((Kp.refl Nb w3).alloc _))
                have TH := hid (run_there (q := ((a : Int), (b : Int), (b : Int))) hz)
                have HZ8 : Hid (Blk W8 M 38 (runL ((a : Int), (b : Int), (b : Int)))) := hid (by rw [hW8]; exact row_set hz rfl)
                have RZ := hid (range_ofR HZ8.out)
                have HO8 := hid (ownsRow_kpD HO3.out KW8.out)
                have HMS : Hid (w3.heap.size = M) := hid hM
                clear hz
                go_upto_region 16 with (first
                  | (refine wpList_store_mid (by rfl) 38 (.tmp 13) (.tmp 62) (by rfl) M 0 (runL ((a : Int), (b : Int), (b : Int))).toArray (by rfl) (by rfl) TH.out (run_infoA ((a : Int), (b : Int), (b : Int))) (run_one ((a : Int), (b : Int), (b : Int))) ?_))
                rw [show (w3.alloc (.cells #[.int .i64 0, .int .i64 0, .int .i64 0] 38)).setCells M 0 (runL ((a : Int), (b : Int), (b : Int))) = W8 from hW8.symm]
                clear hW8 hM TH
                have MK := hid (make_run1 W8 (a : Int) (b : Int) (b : Int))
                obtain ⟨fs, hfs⟩ := under_run
                obtain ⟨i0, zz, hi, hz0, hz1, hz2, hz3⟩ := run_info3
                have B2 : Hid (k + [((a : Int), (b : Int), (b : Int))].length ≤ maxLen ∧ (k + [((a : Int), (b : Int), (b : Int))].length) * 24 ≤ 140737488355328 ∧ w1.heap.size ≤ (W8.alloc (.cells #[.int .i64 (a : Int), .int .i64 (b : Int), .int .i64 (b : Int)] 38 (0, 0))).heap.size) := hid (by
                  have h0 := HK3.out.size
                  have h1 := KW8.out.size
                  have h2 := ((Kp.refl Nb W8).alloc (.cells #[.int .i64 (a : Int), .int .i64 (b : Int), .int .i64 (b : Int)] 38 (0, 0))).size
                  have h3 := HLT.out
                  refine ⟨?_, ?_, by omega⟩ <;> rw [List.length_singleton]
                  · unfold maxLen; omega
                  · omega)
                go_wp2_with (first
                  | (refine wpList_load_mid (by rfl) 38 (.tmp 13) (by rfl) M 0 (by rfl) (runL ((a : Int), (b : Int), (b : Int))) _ RZ.out hfs rfl (run_infoL ((a : Int), (b : Int), (b : Int))) ?_)
                  | (refine wpList_val (by rfl) _ _ (exec_buildSliceD rfl (qs := #[(0, .agg #[.int .i64 (a : Int), .int .i64 (b : Int), .int .i64 (b : Int)])]) (by simp [Act.eval, Act.put]) MK.out) ?_)
                  | (at_builtin; refine wpList_append_rows (f := runL) (z := (0, 0, 0)) (c := 3) rfl _ _ 25 rfl w1.heap.size 38 i0 zz 24 under_clock hi hz0 hz1 hz2 hz3 (by decide) _ _ _ rfl (ownsRow_kpD HO8.out ((Kp.refl Nb _).alloc _)) _ [((a : Int), (b : Int), (b : Int))] rfl (rows_oneR (Blk.new _ _ _)) (fun x hx => rfl) (fun x _ => run_one' x) B2.out.1 B2.out.2.1 B2.out.2.2 ?_))
                intro v10 w10 hown hgrow
                have HK10 : Hid (Kp Nb w1 w10) := hid (((HK3.out.trans KW8.out (fun _ _ h => h)).trans ((Kp.refl Nb W8).alloc (.cells #[.int .i64 (a : Int), .int .i64 (b : Int), .int .i64 (b : Int)] 38 (0, 0))) (fun _ _ h => h)).grown hgrow (fun g hg h => by have := (row_cells HO8.out hg).1; omega))
                have HO10 : Hid (w10.ownsRow w1.heap.size 38 3 v10 (c ++ [((a : Int), (b : Int), (b : Int))]).length (flatR runL (c ++ [((a : Int), (b : Int), (b : Int))]))) := hid (by rw [List.length_append, HCL.out, flatR_append]; exact hown)
                have HOK10 : Hid (∀ q ∈ c ++ [((a : Int), (b : Int), (b : Int))], RunOk q) := hid (fun q hq => by
                  rcases List.mem_append.1 hq with hq | hq
                  · exact HOK.out q hq
                  · rw [List.mem_singleton.1 hq]; unfold RunOk I64; dsimp only; omega)
                obtain ⟨a10, c10, rfl⟩ := own_shape hown
                clear hown hgrow
                have hb9 := HLT.out
                go_wp2
                go_roundw
                case rel => exact ⟨k + 1, c ++ [((a : Int), (b : Int), (b : Int))], by rw [HLE.out]; exact HLT.out, by go_num, HNR, HO10, HOK10, HK10⟩
                case measure => have := HLT.out; simp [intOf]; omega
              · have hq1 : q1.length ≤ 1000 := HMQ.out q1 (by simp)
                obtain ⟨tq1, htq1⟩ : ∃ x, bs q1 = x := ⟨_, rfl⟩
                cases hnt : numT q1 with
                | none =>
                  have HNO : Hid (PT = none) := hid (HBAD.out (by rw [HR.out, hna, Option.bind_some]; dsimp only [prsQ]; rw [hnb, hnt]; rfl))
                  have hxz := numV_none hnt
                  have CN0 : Hid (∀ wx, Calls Tryz.prog 100 #[.string tp0] wx fun e w' => e = .returned (.tuple #[.int .i64 (a : Int), .bool true]) ∧ wx = w') := hid (fun wx => by rw [← HTP.out]; exact rnumber_at p0 _ (numV_some hna) wx (by have := HM0.out; omega))
                  have CN1 : Hid (∀ wx, Calls Tryz.prog 100 #[.string tq0] wx fun e w' => e = .returned (.tuple #[.int .i64 (b : Int), .bool true]) ∧ wx = w') := hid (fun wx => by rw [← htq0]; exact rnumber_at q0 _ hxy wx (by omega))
                  have CN2 : Hid (∀ wx, Calls Tryz.prog 100 #[.string tq1] wx fun e w' => e = .returned (.tuple #[.int .i64 0, .bool false]) ∧ wx = w') := hid (fun wx => by rw [← htq1]; exact rnumber_at q1 _ hxz wx (by omega))
                  obtain ⟨g8, c8, rfl, hc8, hm8, ht8⟩ := tx_cells O8.out (n := 2) rfl (by decide)
                  have d2 : w3.cell? ⟨g8, 0, none⟩ = some (.string tq0) := by rw [← htq0]; exact ht8 0 (by simp)
                  have D3 : Hid (w3.cell? ⟨g8, 1, none⟩ = some (.string tq1)) := hid (by rw [← htq1]; exact ht8 1 (by simp))
                  unfold maxLen at hm8
                  clear O8 ht8 hna hxy htq0 hq0 hnb hnt hxz htq1 hq1
                  go_wp2_with fail
                  refine (CN0.out _).mono ?_
                  rintro r w4 ⟨rfl, rfl⟩
                  go_wp2_with fail
                  refine (CN1.out _).mono ?_
                  rintro r w5 ⟨rfl, rfl⟩
                  obtain ⟨M, hM⟩ : ∃ M, w3.heap.size = M := ⟨_, rfl⟩
                  obtain ⟨W8, hW8⟩ : ∃ W, W = (w3.alloc (.cells (runL (0, 0, 0)).toArray 38)).setCells M 0 (runL ((a : Int), (b : Int), (b : Int))) := ⟨_, rfl⟩
                  have hz := Blk.new w3 38 (runL (0, 0, 0))
                  rw [hM] at hz
                  have KW8 : Hid (Kp Nb w3 W8) := hid (by rw [hW8]; exact Kp.setCells (fun h => absurd h (by omega)) _ 0 _ ((Kp.refl Nb w3).alloc _))
                  have TH := hid (run_there (q := ((a : Int), (b : Int), (b : Int))) hz)
                  have HZ8 : Hid (Blk W8 M 38 (runL ((a : Int), (b : Int), (b : Int)))) := hid (by rw [hW8]; exact row_set hz rfl)
                  have RZ := hid (range_ofR HZ8.out)
                  have HO8 := hid (ownsRow_kpD HO3.out KW8.out)
                  have HMS : Hid (w3.heap.size = M) := hid hM
                  clear hz
                  go_upto_region 16 with (first
                    | (refine wpList_store_mid (by rfl) 38 (.tmp 13) (.tmp 62) (by rfl) M 0 (runL ((a : Int), (b : Int), (b : Int))).toArray (by rfl) (by rfl) TH.out (run_infoA ((a : Int), (b : Int), (b : Int))) (run_one ((a : Int), (b : Int), (b : Int))) ?_))
                  rw [show (w3.alloc (.cells #[.int .i64 0, .int .i64 0, .int .i64 0] 38)).setCells M 0 (runL ((a : Int), (b : Int), (b : Int))) = W8 from hW8.symm]
                  clear hW8 hM TH
                  have d3 : W8.cell? ⟨g8, 1, none⟩ = some (.string tq1) := KW8.out.cell D3.out (fun h => h)
                  clear d0 d2
                  go_wp2_with fail
                  refine (CN2.out _).mono ?_
                  rintro r w6 ⟨rfl, rfl⟩
                  go_wp2
                  go_ret2
                  rw [HNO.out]
                  exact ⟨_, rfl, cl_nil _, HEND3.out.trans KW8.out (fun _ _ h => h)⟩
                | some t =>
                  have ht := numT_lt hnt
                  have hxz := numV_some hnt
                  by_cases htb : t = b
                  · subst htb
                    have HNO : Hid (PT = none) := hid (HBAD.out (by rw [HR.out, hna, Option.bind_some]; dsimp only [prsQ]; rw [hnb, hnt]; simp))
                    obtain ⟨b, rfl⟩ : ∃ b, b = t := ⟨_, rfl⟩
                    have CN0 : Hid (∀ wx, Calls Tryz.prog 100 #[.string tp0] wx fun e w' => e = .returned (.tuple #[.int .i64 (a : Int), .bool true]) ∧ wx = w') := hid (fun wx => by rw [← HTP.out]; exact rnumber_at p0 _ (numV_some hna) wx (by have := HM0.out; omega))
                    have CN1 : Hid (∀ wx, Calls Tryz.prog 100 #[.string tq0] wx fun e w' => e = .returned (.tuple #[.int .i64 (b : Int), .bool true]) ∧ wx = w') := hid (fun wx => by rw [← htq0]; exact rnumber_at q0 _ hxy wx (by omega))
                    have CN2 : Hid (∀ wx, Calls Tryz.prog 100 #[.string tq1] wx fun e w' => e = .returned (.tuple #[.int .i64 (b : Int), .bool true]) ∧ wx = w') := hid (fun wx => by rw [← htq1]; exact rnumber_at q1 _ hxz wx (by omega))
                    obtain ⟨g8, c8, rfl, hc8, hm8, ht8⟩ := tx_cells O8.out (n := 2) rfl (by decide)
                    have d2 : w3.cell? ⟨g8, 0, none⟩ = some (.string tq0) := by rw [← htq0]; exact ht8 0 (by simp)
                    have D3 : Hid (w3.cell? ⟨g8, 1, none⟩ = some (.string tq1)) := hid (by rw [← htq1]; exact ht8 1 (by simp))
                    unfold maxLen at hm8
                    clear O8 ht8 hna hxy htq0 hq0 hnb hnt hxz htq1 hq1
                    go_wp2_with fail
                    refine (CN0.out _).mono ?_
                    rintro r w4 ⟨rfl, rfl⟩
                    go_wp2_with fail
                    refine (CN1.out _).mono ?_
                    rintro r w5 ⟨rfl, rfl⟩
                    obtain ⟨M, hM⟩ : ∃ M, w3.heap.size = M := ⟨_, rfl⟩
                    obtain ⟨W8, hW8⟩ : ∃ W, W = (w3.alloc (.cells (runL (0, 0, 0)).toArray 38)).setCells M 0 (runL ((a : Int), (b : Int), (b : Int))) := ⟨_, rfl⟩
                    have hz := Blk.new w3 38 (runL (0, 0, 0))
                    rw [hM] at hz
                    have KW8 : Hid (Kp Nb w3 W8) := hid (by rw [hW8]; exact Kp.setCells (fun h => absurd h (by omega)) _ 0 _ ((Kp.refl Nb w3).alloc _))
                    have TH := hid (run_there (q := ((a : Int), (b : Int), (b : Int))) hz)
                    have HZ8 : Hid (Blk W8 M 38 (runL ((a : Int), (b : Int), (b : Int)))) := hid (by rw [hW8]; exact row_set hz rfl)
                    have RZ := hid (range_ofR HZ8.out)
                    have HO8 := hid (ownsRow_kpD HO3.out KW8.out)
                    have HMS : Hid (w3.heap.size = M) := hid hM
                    clear hz
                    go_upto_region 16 with (first
                      | (refine wpList_store_mid (by rfl) 38 (.tmp 13) (.tmp 62) (by rfl) M 0 (runL ((a : Int), (b : Int), (b : Int))).toArray (by rfl) (by rfl) TH.out (run_infoA ((a : Int), (b : Int), (b : Int))) (run_one ((a : Int), (b : Int), (b : Int))) ?_))
                    rw [show (w3.alloc (.cells #[.int .i64 0, .int .i64 0, .int .i64 0] 38)).setCells M 0 (runL ((a : Int), (b : Int), (b : Int))) = W8 from hW8.symm]
                    clear hW8 hM TH
                    have d3 : W8.cell? ⟨g8, 1, none⟩ = some (.string tq1) := KW8.out.cell D3.out (fun h => h)
                    clear d0 d2
                    go_wp2_with fail
                    refine (CN2.out _).mono ?_
                    rintro r w6 ⟨rfl, rfl⟩
                    go_wp2
                    go_ret2
                    rw [HNO.out]
                    exact ⟨_, rfl, cl_nil _, HEND3.out.trans KW8.out (fun _ _ h => h)⟩
                  · have HNR := hid (HNX.out ((a : Int), (b : Int), (t : Int)) (by rw [HR.out, hna, Option.bind_some]; dsimp only [prsQ]; rw [hnb, hnt, Option.bind_some, Option.bind_some, if_neg htb]))
                    have CN0 : Hid (∀ wx, Calls Tryz.prog 100 #[.string tp0] wx fun e w' => e = .returned (.tuple #[.int .i64 (a : Int), .bool true]) ∧ wx = w') := hid (fun wx => by rw [← HTP.out]; exact rnumber_at p0 _ (numV_some hna) wx (by have := HM0.out; omega))
                    have CN1 : Hid (∀ wx, Calls Tryz.prog 100 #[.string tq0] wx fun e w' => e = .returned (.tuple #[.int .i64 (b : Int), .bool true]) ∧ wx = w') := hid (fun wx => by rw [← htq0]; exact rnumber_at q0 _ hxy wx (by omega))
                    have CN2 : Hid (∀ wx, Calls Tryz.prog 100 #[.string tq1] wx fun e w' => e = .returned (.tuple #[.int .i64 (t : Int), .bool true]) ∧ wx = w') := hid (fun wx => by rw [← htq1]; exact rnumber_at q1 _ hxz wx (by omega))
                    obtain ⟨g8, c8, rfl, hc8, hm8, ht8⟩ := tx_cells O8.out (n := 2) rfl (by decide)
                    have d2 : w3.cell? ⟨g8, 0, none⟩ = some (.string tq0) := by rw [← htq0]; exact ht8 0 (by simp)
                    have D3 : Hid (w3.cell? ⟨g8, 1, none⟩ = some (.string tq1)) := hid (by rw [← htq1]; exact ht8 1 (by simp))
                    unfold maxLen at hm8
                    clear O8 ht8 hna hxy htq0 hq0 hnb hnt hxz htq1 hq1
                    go_wp2_with fail
                    refine (CN0.out _).mono ?_
                    rintro r w4 ⟨rfl, rfl⟩
                    go_wp2_with fail
                    refine (CN1.out _).mono ?_
                    rintro r w5 ⟨rfl, rfl⟩
                    obtain ⟨M, hM⟩ : ∃ M, w3.heap.size = M := ⟨_, rfl⟩
                    obtain ⟨W8, hW8⟩ : ∃ W, W = (w3.alloc (.cells (runL (0, 0, 0)).toArray 38)).setCells M 0 (runL ((a : Int), (b : Int), (b : Int))) := ⟨_, rfl⟩
                    have hz := Blk.new w3 38 (runL (0, 0, 0))
                    rw [hM] at hz
                    have KW8 : Hid (Kp Nb w3 W8) := hid (by rw [hW8]; exact Kp.setCells (fun h => absurd h (by omega)) _ 0 _ ((Kp.refl Nb w3).alloc _))
                    have TH := hid (run_there (q := ((a : Int), (b : Int), (b : Int))) hz)
                    have HZ8 : Hid (Blk W8 M 38 (runL ((a : Int), (b : Int), (b : Int)))) := hid (by rw [hW8]; exact row_set hz rfl)
                    have RZ := hid (range_ofR HZ8.out)
                    have HO8 := hid (ownsRow_kpD HO3.out KW8.out)
                    have HMS : Hid (w3.heap.size = M) := hid hM
                    clear hz
                    go_upto_region 16 with (first
                      | (refine wpList_store_mid (by rfl) 38 (.tmp 13) (.tmp 62) (by rfl) M 0 (runL ((a : Int), (b : Int), (b : Int))).toArray (by rfl) (by rfl) TH.out (run_infoA ((a : Int), (b : Int), (b : Int))) (run_one ((a : Int), (b : Int), (b : Int))) ?_))
                    rw [show (w3.alloc (.cells #[.int .i64 0, .int .i64 0, .int .i64 0] 38)).setCells M 0 (runL ((a : Int), (b : Int), (b : Int))) = W8 from hW8.symm]
                    clear hW8 hM TH
                    have d3 : W8.cell? ⟨g8, 1, none⟩ = some (.string tq1) := KW8.out.cell D3.out (fun h => h)
                    have htb' : ¬ ((t : Int) = (b : Int)) := by omega
                    have htbe : ((t : Int) == (b : Int)) = false := by rw [beq_eq_false_iff_ne]; exact htb'
                    clear d0 d2
                    go_wp2_with fail
                    refine (CN2.out _).mono ?_
                    rintro r w6 ⟨rfl, rfl⟩
                    have fz := HZ8.out.frozen 2
                    have e2 : W8.cell? ⟨M, 2, none⟩ = some (.int .i64 (b : Int)) := HZ8.out.cell 2
                    have HZ9 : Hid (Blk (W8.setCell ⟨M, 2, none⟩ (.int .i64 (t : Int))) M 38 (runL ((a : Int), (b : Int), (t : Int)))) := hid (HZ8.out.set 2 _)
                    have KW9 : Hid (Kp Nb w3 (W8.setCell ⟨M, 2, none⟩ (.int .i64 (t : Int)))) := hid (KW8.out.setCell (p := ⟨M, 2, none⟩) (fun h => by have := HMS.out; dsimp only at h; omega) _)
                    clear KW8 HZ8 HO8 RZ
                    go_upto_region 21 with fail
                    obtain ⟨W8b, hW8b⟩ : ∃ W, W = W8.setCell ⟨M, 2, none⟩ (.int .i64 (t : Int)) := ⟨_, rfl⟩
                    rw [← hW8b] at HZ9 KW9 ⊢
                    clear fz e2 d3 hW8b
                    obtain ⟨W8, rfl⟩ : ∃ W, W = W8b := ⟨_, rfl⟩
                    have HZ8 := HZ9
                    have KW8 := KW9
                    have HO8 := hid (ownsRow_kpD HO3.out KW8.out)
                    have RZ := hid (range_ofR HZ8.out)
                    clear HZ9 KW9
                    have MK := hid (make_run1 W8 (a : Int) (b : Int) (t : Int))
                    obtain ⟨fs, hfs⟩ := under_run
                    obtain ⟨i0, zz, hi, hz0, hz1, hz2, hz3⟩ := run_info3
                    have B2 : Hid (k + [((a : Int), (b : Int), (t : Int))].length ≤ maxLen ∧ (k + [((a : Int), (b : Int), (t : Int))].length) * 24 ≤ 140737488355328 ∧ w1.heap.size ≤ (W8.alloc (.cells #[.int .i64 (a : Int), .int .i64 (b : Int), .int .i64 (t : Int)] 38 (0, 0))).heap.size) := hid (by
                      have h0 := HK3.out.size
                      have h1 := KW8.out.size
                      have h2 := ((Kp.refl Nb W8).alloc (.cells #[.int .i64 (a : Int), .int .i64 (b : Int), .int .i64 (t : Int)] 38 (0, 0))).size
                      have h3 := HLT.out
                      refine ⟨?_, ?_, by omega⟩ <;> rw [List.length_singleton]
                      · unfold maxLen; omega
                      · omega)
                    go_wp2_with (first
                      | (refine wpList_load_mid (by rfl) 38 (.tmp 13) (by rfl) M 0 (by rfl) (runL ((a : Int), (b : Int), (t : Int))) _ RZ.out hfs rfl (run_infoL ((a : Int), (b : Int), (t : Int))) ?_)
                      | (refine wpList_val (by rfl) _ _ (exec_buildSliceD rfl (qs := #[(0, .agg #[.int .i64 (a : Int), .int .i64 (b : Int), .int .i64 (t : Int)])]) (by simp [Act.eval, Act.put]) MK.out) ?_)
                      | (at_builtin; refine wpList_append_rows (f := runL) (z := (0, 0, 0)) (c := 3) rfl _ _ 25 rfl w1.heap.size 38 i0 zz 24 under_clock hi hz0 hz1 hz2 hz3 (by decide) _ _ _ rfl (ownsRow_kpD HO8.out ((Kp.refl Nb _).alloc _)) _ [((a : Int), (b : Int), (t : Int))] rfl (rows_oneR (Blk.new _ _ _)) (fun x hx => rfl) (fun x _ => run_one' x) B2.out.1 B2.out.2.1 B2.out.2.2 ?_))
                    intro v10 w10 hown hgrow
                    have HK10 : Hid (Kp Nb w1 w10) := hid (((HK3.out.trans KW8.out (fun _ _ h => h)).trans ((Kp.refl Nb W8).alloc (.cells #[.int .i64 (a : Int), .int .i64 (b : Int), .int .i64 (t : Int)] 38 (0, 0))) (fun _ _ h => h)).grown hgrow (fun g hg h => by have := (row_cells HO8.out hg).1; omega))
                    have HO10 : Hid (w10.ownsRow w1.heap.size 38 3 v10 (c ++ [((a : Int), (b : Int), (t : Int))]).length (flatR runL (c ++ [((a : Int), (b : Int), (t : Int))]))) := hid (by rw [List.length_append, HCL.out, flatR_append]; exact hown)
                    have HOK10 : Hid (∀ q ∈ c ++ [((a : Int), (b : Int), (t : Int))], RunOk q) := hid (fun q hq => by
                      rcases List.mem_append.1 hq with hq | hq
                      · exact HOK.out q hq
                      · rw [List.mem_singleton.1 hq]; unfold RunOk I64; dsimp only; omega)
                    obtain ⟨a10, c10, rfl⟩ := own_shape hown
                    clear hown hgrow
                    have hb9 := HLT.out
                    go_wp2
                    go_roundw
                    case rel => exact ⟨k + 1, c ++ [((a : Int), (b : Int), (t : Int))], by rw [HLE.out]; exact HLT.out, by go_num, HNR, HO10, HOK10, HK10⟩
                    case measure => have := HLT.out; simp [intOf]; omega
              · have HNO : Hid (PT = none) := hid (HBAD.out (by rw [HR.out, hna, Option.bind_some]; dsimp only [prsQ]))
                have CN0 : Hid (∀ wx, Calls Tryz.prog 100 #[.string tp0] wx fun e w' => e = .returned (.tuple #[.int .i64 (a : Int), .bool true]) ∧ wx = w') := hid (fun wx => by rw [← HTP.out]; exact rnumber_at p0 _ (numV_some hna) wx (by have := HM0.out; omega))
                have CN1 : Hid (∀ wx, Calls Tryz.prog 100 #[.string tq0] wx fun e w' => e = .returned (.tuple #[.int .i64 (b : Int), .bool true]) ∧ wx = w') := hid (fun wx => by rw [← htq0]; exact rnumber_at q0 _ hxy wx (by omega))
                obtain ⟨nq, hnq⟩ : ∃ n, (q0 :: q1 :: q2 :: R).length = n := ⟨_, rfl⟩
                have hnq1 : 2 < nq := by rw [← hnq]; simp
                obtain ⟨g8, c8, rfl, hc8, hm8, ht8⟩ := tx_cells O8.out hnq (by omega)
                have hnq2 : (nq : Int) > 2 := by omega
                have d2 : w3.cell? ⟨g8, 0, none⟩ = some (.string tq0) := by rw [← htq0]; exact ht8 0 (by simp)
                unfold maxLen at hm8
                clear O8 ht8 hnq hna hxy htq0 hq0 hnb
                go_wp2_with fail
                refine (CN0.out _).mono ?_
                rintro r w4 ⟨rfl, rfl⟩
                go_wp2_with fail
                refine (CN1.out _).mono ?_
                rintro r w5 ⟨rfl, rfl⟩
                go_wp2
                go_ret2
                rw [HNO.out]
                exact ⟨_, rfl, cl_nil _, HEND3.out⟩
        · have HNO : Hid (PT = none) := hid (HBAD.out (prsR_ne hp2))
          obtain ⟨np, hnp⟩ : ∃ n, (splL 58 wk).length = n := ⟨_, rfl⟩
          rw [hnp] at hp2
          unfold TxOwn at O7
          rw [hnp] at O7
          obtain ⟨a7, c7, rfl⟩ := own_shape O7.out
          have hp3 : ¬ ((np : Int) = 2) := by omega
          have hp4 : ((np : Int) == 2) = false := by rw [beq_eq_false_iff_ne]; exact hp3
          clear O7 hnp
          go_wp2
          go_ret2
          rw [HNO.out]
          exact ⟨_, rfl, cl_nil _, HEND.out⟩
      · obtain rfl : k = L := by omega
        have HPC : Hid (PT = if rightC c then some c else none) := hid (by
          have h := HP.out
          rw [List.take_of_length_le (Nat.le_of_eq HLE.out)] at h
          rw [HPT.out, h]
          rfl)
        have HM : Hid (ClSl wr (.slice a4 k c4) c) := hid (by
          have h := HO.out
          rw [← HCL.out] at h ⊢
          exact cl_owned h HOK.out)
        have CR := hid (rright_any _ c wr HM.out (by have := HCL.out; omega))
        obtain ⟨rb, hrb⟩ : ∃ b, rightC c = b := ⟨_, rfl⟩
        rw [hrb] at CR HPC
        have KE : Hid (Kp Nb w wr) := hid (K1.out.trans HK.out (fun _ _ h => h))
        clear hrb
        go_wp2_with fail
        refine CR.out.mono ?_
        rintro r w5 ⟨rfl, k5⟩
        have HM5 := hid (HM.out.kept k5)
        have KE5 := hid (KE.out.trans k5 (fun _ _ h => h))
        clear k5 CR
        cases rb with
        | true =>
          go_wp2
          go_ret2
          rw [HPC.out]
          exact ⟨_, rfl, HM5.out, KE5.out⟩
        | false =>
          go_wp2
          go_ret2
          rw [HPC.out]
          exact ⟨_, rfl, cl_nil _, KE5.out⟩
end

end Go.Proofs.YtogoophofgkboaaGreatDoor
