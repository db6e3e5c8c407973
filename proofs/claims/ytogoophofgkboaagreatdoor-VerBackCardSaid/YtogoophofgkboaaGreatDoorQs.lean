/-
  Of the texts VeT what is used. No condition but what each says.
-/
import Derived.Test.YtogoophofgkboaaGreatDoorQq
namespace Go.Proofs.YtogoophofgkboaaGreatDoor
section
open Go.RowKit
theorem good_okV {q : RunQ} (h : goodR q = true) : RunOk q := by
  have g := goodR_of.1 h
  unfold RunOk I64
  omega
theorem textC_len {c : List RunQ} (hr : rightC c = true) : (textC c).length ≤ 1 + c.length * 78 := by
  unfold textC
  rw [if_pos hr]
  split
  · simp
  · have h := join_len [32] (c.map textR) (fun x hx => by
      obtain ⟨q, hq, rfl⟩ := List.mem_map.1 hx
      exact textR_len q (good_okV (right_good hr q hq)))
    rw [List.length_map] at h
    simp only [List.length_singleton] at h
    omega
theorem exec_convT {P : Program} {ev : Operand → Value} {o : Oper} {T U : TypeId} {x : Operand} {a v : Value} {w w' : World} (ho : o.op = .convert T U x) (hx : ev x = a) (hl : (convert T U a).run P w = .ok v w') : (execOp ev o).run P w = .ok (.value v) w' := by
  unfold execOp
  simp only [ho, hx, Sem.run_bind, Sem.run_pure, Result.andThen_ok, hl]
theorem make_clk1 (w : World) (a b c : Int) : (Instr.buildSlice 25 1 #[(0, .agg #[.int .i64 a, .int .i64 b, .int .i64 c])]).run Tryz.prog w = .ok (.slice (some ⟨w.heap.size, 0, none⟩) 1 1) (w.alloc (.cells #[.int .i64 a, .int .i64 b, .int .i64 c] 38)) := by
  kernel_rfl
theorem cl_new1 (w : World) (r : RunQ) (h : RunOk r) : ClSl (w.alloc (.cells #[.int .i64 r.1, .int .i64 r.2.1, .int .i64 r.2.2] 38)) (.slice (some ⟨w.heap.size, 0, none⟩) 1 1) [r] := by
  have hb := Blk.new w 38 [.int .i64 r.1, .int .i64 r.2.1, .int .i64 r.2.2]
  refine ⟨runAt_ok (fun q hq => by rw [List.mem_singleton.1 hq]; exact h), .inr ⟨w.heap.size, 0, 1, rfl, Nat.le_refl _, by unfold maxLen; omega, fun i hi j u hu => ?_⟩⟩
  have e : i = 0 := by simp at hi; omega
  subst e
  show (World.alloc _ _).cell? ⟨w.heap.size, 0 + 0 * 3 + j, none⟩ = some u
  rw [show 0 + 0 * 3 + j = j by omega, hb.cell]
  exact hu
set_option maxRecDepth 100000 in
set_option maxHeartbeats 8000000 in
theorem itext_any (x : ItQ) (vp vv : Value) (w : World) (h : ItOk w x vp vv) (ht : Tab w) :
    Calls Tryz.prog 35 #[itVq x vp vv] w fun e w' => e = .returned (.string (bs (textI x))) ∧ Kp Nb w w' := by
  obtain ⟨pp, dp, rfl⟩ := h.past.shape
  obtain ⟨pv, dv, rfl⟩ := by_shape h.val
  obtain ⟨N, hN⟩ : ∃ N, w.heap.size = N := ⟨_, rfl⟩
  obtain ⟨W, hW⟩ : ∃ W, W = w.alloc (.cells #[.string (st x.key), .int .i64 x.dn, .int .i64 x.dd, .slice pp x.past.length dp, .bool x.gone, .slice pv x.val.length dv] 28) := ⟨_, rfl⟩
  have HB1 : Hid (Blk W N 28 (itL (st x.key) x.dn x.dd (.slice pp x.past.length dp) x.gone (.slice pv x.val.length dv))) := hid (by rw [hW, ← hN]; exact Blk.new w _ (itL (st x.key) x.dn x.dd (.slice pp x.past.length dp) x.gone (.slice pv x.val.length dv)))
  have K0 : Hid (Kp Nb w W) := hid (by rw [hW]; exact (Kp.refl Nb w).alloc _)
  have HX := hid (h.kept K0.out)
  have CR := hid (iright_any x _ _ W HX.out)
  have HTX : Hid (textI x = if rightI x then textIt x else []) := hid rfl
  obtain ⟨TX, hTX⟩ : ∃ t, textI x = t := ⟨_, rfl⟩
  obtain ⟨R, hR⟩ : ∃ b, rightI x = b := ⟨_, rfl⟩
  rw [hTX] at HTX ⊢
  have HRX := hid hR
  rw [hR] at HTX CR
  have HT := hid (ht.kept K0.out)
  cases R with
  | false =>
    have HT0 : Hid (TX = []) := hid HTX.out
    clear h hTX hR HX HTX HRX ht HT
    obtain ⟨key, dn, dd, past, gn, val⟩ := x
    unfold itVq itV at *
    dsimp only at *
    go_enter Tryz.func35, Tryz.ntmps35
    go_upto_region 1 with fail
    try rw [hN]
    rw [← hW]
    clear hW hN
    go_wp2_with (first | (refine wpList_val (by rfl) _ _ (exec_loadD (x := .tmp 1) rfl (by rfl) (load_item HB1.out)) ?_))
    refine CR.out.mono ?_
    rintro r w1 ⟨rfl, k1⟩
    have K1 := hid (K0.out.trans k1 (fun _ _ h => h))
    clear k1
    go_wp2
    go_ret
    exact ⟨by rw [HT0.out]; rfl, K1.out⟩
  | true =>
    have hf := rightI_facts HRX.out
    have hdg := dot_good HRX.out
    have HTX2 : Hid (TX = textIt x) := hid HTX.out
    have HSV : Hid (valT x = if x.gone then [103, 111, 110, 101] else hexW x.val) := hid rfl
    have HPAST := hid HX.out.past
    have HVAL := hid HX.out.val
    have HKEY := hid HX.out.key
    have HLEN : Hid (x.key.length ≤ 24 ∧ x.past.length ≤ 32 ∧ x.val.length ≤ 64 ∧ 1 ≤ x.key.length) := hid ⟨hf.1, hf.2.2.1, hf.2.2.2.2.1, hf.2.2.2.2.2.1⟩
    have HDR : Hid (0 ≤ x.dn ∧ x.dn ≤ 7 ∧ 1 ≤ x.dd ∧ x.dd ≤ 1099511627776) := hid hf.2.1
    have HPR := hid hf.2.2.2.1
    have HDG := hid hdg
    have LP : Hid ((textC x.past).length ≤ 3000) := hid (by have := textC_len HPR.out; have := HLEN.out; omega)
    have LK : Hid ((hexL x.key).length ≤ 48) := hid (by rw [hexL_len]; have := HLEN.out; omega)
    have LR : Hid ((textR (x.dn, x.dd, x.dd)).length ≤ 77) := hid (textR_len _ (good_okV hdg))
    have LV : Hid ((valT x).length ≤ 128) := hid (by
      rw [HSV.out]
      split
      · decide
      · unfold hexW
        split
        · decide
        · rw [hexL_len]; have := HLEN.out; omega)
    have A1 : Hid (∀ w : World, (Op.stringOp .add (bs (hexL x.key)) ⟨#[32]⟩).run Tryz.prog w = .ok (.string (bs (hexL x.key ++ [32]))) w) := hid (fun w => add_bs w _ [32] (by have := LK.out; omega) (by decide))
    have A2 : Hid (∀ w : World, (Op.stringOp .add (bs (hexL x.key ++ [32])) (bs (textR (x.dn, x.dd, x.dd)))).run Tryz.prog w = .ok (.string (bs (hexL x.key ++ [32] ++ textR (x.dn, x.dd, x.dd)))) w) := hid (fun w => add_bs w _ _ (by simp only [List.length_append, List.length_cons, List.length_nil]; have := LK.out; omega) (by have := LR.out; omega))
    have A3 : Hid (∀ w : World, (Op.stringOp .add (bs (hexL x.key ++ [32] ++ textR (x.dn, x.dd, x.dd))) ⟨#[32, 91]⟩).run Tryz.prog w = .ok (.string (bs (hexL x.key ++ [32] ++ textR (x.dn, x.dd, x.dd) ++ [32, 91]))) w) := hid (fun w => add_bs w _ [32, 91] (by simp only [List.length_append, List.length_cons, List.length_nil]; have := LK.out; have := LR.out; omega) (by decide))
    have A4 : Hid (∀ w : World, (Op.stringOp .add (bs (hexL x.key ++ [32] ++ textR (x.dn, x.dd, x.dd) ++ [32, 91])) (bs (textC x.past))).run Tryz.prog w = .ok (.string (bs (hexL x.key ++ [32] ++ textR (x.dn, x.dd, x.dd) ++ [32, 91] ++ textC x.past))) w) := hid (fun w => add_bs w _ _ (by simp only [List.length_append, List.length_cons, List.length_nil]; have := LK.out; have := LR.out; omega) (by have := LP.out; omega))
    have A5 : Hid (∀ w : World, (Op.stringOp .add (bs (hexL x.key ++ [32] ++ textR (x.dn, x.dd, x.dd) ++ [32, 91] ++ textC x.past)) ⟨#[93, 32]⟩).run Tryz.prog w = .ok (.string (bs (hexL x.key ++ [32] ++ textR (x.dn, x.dd, x.dd) ++ [32, 91] ++ textC x.past ++ [93, 32]))) w) := hid (fun w => add_bs w _ [93, 32] (by simp only [List.length_append, List.length_cons, List.length_nil]; have := LK.out; have := LR.out; have := LP.out; omega) (by decide))
    have A6 : Hid (∀ w : World, (Op.stringOp .add (bs (hexL x.key ++ [32] ++ textR (x.dn, x.dd, x.dd) ++ [32, 91] ++ textC x.past ++ [93, 32])) (bs (valT x))).run Tryz.prog w = .ok (.string (bs TX)) w) := hid (fun w => by
      rw [add_bs w _ _ (by simp only [List.length_append, List.length_cons, List.length_nil]; have := LK.out; have := LR.out; have := LP.out; omega) (by have := LV.out; omega), HTX2.out]
      unfold textIt pastT
      simp only [List.append_assoc, List.cons_append, List.nil_append])
    have CV := hid (fun wx (k : Kp Nb W wx) => dbytes_any _ x.val wx (HVAL.out.kept k (fun _ h => h)) (by have := HLEN.out; omega))
    have CK : Hid (∀ g wx, BySl Nb wx g x.key → Calls Tryz.prog 56 #[g] wx fun e w' => e = .returned (.string (bs (hexL x.key))) ∧ Kp Nb wx w') := hid (fun g wx hg => by
      have h2 := dbytes_any g x.key wx hg (by have := HLEN.out; omega)
      have e : hexW x.key = hexL x.key := by unfold hexW; rw [if_neg (by have := HLEN.out; omega)]
      rwa [e] at h2)
    have CP0 := hid (fun wx (k : Kp Nb W wx) => dtext_any _ x.past wx (HPAST.out.kept k) (by have := HLEN.out; omega) (HT.out.kept k))
    have CD0 : Hid (∀ v wx, ClSl wx v [(x.dn, x.dd, x.dd)] → Kp Nb W wx → Calls Tryz.prog 78 #[v] wx fun e w' => e = .returned (.string (bs (textR (x.dn, x.dd, x.dd)))) ∧ Kp Nb wx w') := hid (fun v wx hv k => by
      have h2 := dtext_any v [(x.dn, x.dd, x.dd)] wx hv (by show 1 ≤ 100000; decide) (HT.out.kept k)
      rwa [(textC_one HDG.out).2] at h2)
    have HCV0 := hid (fun (w : World) => conv_str x.key HKEY.out (by have := HLEN.out; omega) w)
    have HRO : Hid (RunOk (x.dn, x.dd, x.dd)) := hid (good_okV HDG.out)
    obtain ⟨t1, ht1⟩ : ∃ t, bs (hexL x.key ++ [32]) = t := ⟨_, rfl⟩
    obtain ⟨t2, ht2⟩ : ∃ t, bs (hexL x.key ++ [32] ++ textR (x.dn, x.dd, x.dd)) = t := ⟨_, rfl⟩
    obtain ⟨t3, ht3⟩ : ∃ t, bs (hexL x.key ++ [32] ++ textR (x.dn, x.dd, x.dd) ++ [32, 91]) = t := ⟨_, rfl⟩
    obtain ⟨t4, ht4⟩ : ∃ t, bs (hexL x.key ++ [32] ++ textR (x.dn, x.dd, x.dd) ++ [32, 91] ++ textC x.past) = t := ⟨_, rfl⟩
    obtain ⟨t5, ht5⟩ : ∃ t, bs (hexL x.key ++ [32] ++ textR (x.dn, x.dd, x.dd) ++ [32, 91] ++ textC x.past ++ [93, 32]) = t := ⟨_, rfl⟩
    obtain ⟨t6, ht6⟩ : ∃ t, bs TX = t := ⟨_, rfl⟩
    obtain ⟨sh, hsh⟩ : ∃ t, bs (hexL x.key) = t := ⟨_, rfl⟩
    obtain ⟨sd, hsd⟩ : ∃ t, bs (textR (x.dn, x.dd, x.dd)) = t := ⟨_, rfl⟩
    obtain ⟨sp, hsp⟩ : ∃ t, bs (textC x.past) = t := ⟨_, rfl⟩
    obtain ⟨sv, hsv⟩ : ∃ t, bs (valT x) = t := ⟨_, rfl⟩
    have HSVS : Hid (sv = if x.gone then ⟨#[103, 111, 110, 101]⟩ else bs (hexW x.val)) := hid (by rw [← hsv, HSV.out]; split <;> rfl)
    have HT6 := hid ht6
    rw [ht1] at A1 A2
    rw [ht2] at A2 A3
    rw [ht3] at A3 A4
    rw [ht4] at A4 A5
    rw [ht5] at A5 A6
    rw [ht6] at A6
    rw [hsh] at A1 CK
    rw [hsd] at A2 CD0
    rw [hsp] at A4 CP0
    rw [hsv] at A6
    obtain ⟨sw, hsw⟩ : ∃ t, bs (hexW x.val) = t := ⟨_, rfl⟩
    rw [hsw] at CV HSVS
    clear ht1 ht2 ht3 ht4 ht5 ht6 hsh hsd hsp hsv hsw hf hdg LP LK LR LV HPR HX HTX HTX2 HSV h hTX hR ht HRX HPAST HVAL HKEY HDR
    obtain ⟨key, dn, dd, past, gn, val⟩ := x
    unfold itVq itV at *
    dsimp only at *
    obtain ⟨nP, hnP⟩ : ∃ n, past.length = n := ⟨_, rfl⟩
    obtain ⟨nV, hnV⟩ : ∃ n, val.length = n := ⟨_, rfl⟩
    obtain ⟨nK, hnK⟩ : ∃ n, key.length = n := ⟨_, rfl⟩
    obtain ⟨sk, hsk⟩ : ∃ s, st key = s := ⟨_, rfl⟩
    simp only [hnP, hnV, hnK, hsk] at hW HB1 CR CV CP0 HCV0 HLEN ⊢
    have HNK := hid hnK
    have HSK := hid hsk
    clear hnP hnV hnK hsk
    go_enter Tryz.func35, Tryz.ntmps35
    go_upto_region 1 with fail
    try rw [hN]
    rw [← hW]
    clear hW hN
    go_wp2_with (first | (refine wpList_val (by rfl) _ _ (exec_loadD (x := .tmp 1) rfl (by rfl) (load_item HB1.out)) ?_))
    refine CR.out.mono ?_
    rintro r w1 ⟨rfl, k1⟩
    have KW1 := hid k1
    have HB2 := hid (HB1.out.kept k1 (fun h => h))
    have c5 : w1.cell? ⟨N, 5, none⟩ = some (.slice pv nV dv) := HB2.out.cell 5
    clear k1 HB1 CR
    go_wp2_with fail
    refine (CV.out w1 KW1.out).mono ?_
    rintro r w2 ⟨rfl, k2⟩
    have KW2 := hid (KW1.out.trans k2 (fun _ _ h => h))
    have HB3 := hid (HB2.out.kept k2 (fun h => h))
    have c4 : w2.cell? ⟨N, 4, none⟩ = some (.bool gn) := HB3.out.cell 4
    have d1 : w2.cell? ⟨N, 1, none⟩ = some (.int .i64 dn) := HB3.out.cell 1
    have d2 : w2.cell? ⟨N, 2, none⟩ = some (.int .i64 dd) := HB3.out.cell 2
    clear k2 HB2 CV KW1 c5
    obtain ⟨C, hC⟩ : ∃ C, w2.heap.size = C := ⟨_, rfl⟩
    obtain ⟨w6, hw6⟩ : ∃ w6, w6 = w2.alloc (.cells #[.int .i64 dn, .int .i64 dd, .int .i64 dd] 38) := ⟨_, rfl⟩
    have k6 : Kp Nb w2 w6 := by rw [hw6]; exact (Kp.refl Nb w2).alloc _
    have HCL : Hid (ClSl w6 (.slice (some ⟨C, 0, none⟩) 1 1) [(dn, dd, dd)]) := hid (by rw [hw6, ← hC]; exact cl_new1 w2 (dn, dd, dd) HRO.out)
    have HB := hid (HB3.out.kept k6 (fun h => h))
    have K6 := hid (KW2.out.trans k6 (fun _ _ h => h))
    have CP : Hid (∀ wx, Kp Nb w6 wx → _) := hid (fun wx (k : Kp Nb w6 wx) => CP0.out wx (K6.out.trans k (fun _ _ h => h)))
    have CD : Hid (∀ wx, Kp Nb w6 wx → _) := hid (fun wx (k : Kp Nb w6 wx) => CD0.out _ wx (HCL.out.kept k) (K6.out.trans k (fun _ _ h => h)))
    have HCV : Hid (∀ w : World, ∃ (y : Option Addr) (c : Nat) (w' : World), (convert 9 26 (.string sk)).run Tryz.prog w = .ok (.slice y nK c) w' ∧ BySl Nb w' (.slice y nK c) key ∧ Kp Nb w w') := hid (fun w => by
      obtain ⟨y, c, w', h1, h2, h3⟩ := HCV0.out w
      exact ⟨y, c, w', h1, h2.mono (fun _ h => h.elim), h3⟩)
    have KT := hid (K0.out.trans K6.out (fun _ _ h => h))
    clear k6 CP0 CD0 HCV0 HB3 KW2 K6 K0
    cases gn with
    | true =>
      have HV2 : Hid (sv = ⟨#[103, 111, 110, 101]⟩) := hid HSVS.out
      obtain rfl := HV2.out
      clear HV2 HSVS
      go_upto_region 7 with (first | (refine wpList_val (by rfl) _ _ (exec_buildSliceV (qs := #[(0, .agg #[.int .i64 dn, .int .i64 dd, .int .i64 dd])]) rfl (by rfl) (make_clk1 _ dn dd dd)) ?_))
      try rw [hC]
      rw [← hw6]
      clear hw6 hC c4 d1 d2
      refine region_ghost (g0 := (undef : Value)) [none, none, some 16, none, none, none, none, none, none, none, none, none, none, none, none, none, none, none, none, none, none, none, none, none, some 0, some 1, some 2, some 3, some 4, some 5, some 6, some 7, some 8, some 9, some 10, some 11, some 12, some 13, some 14, some 15] [[(1, none)], [(24, some 0)], [(25, some 1)], [(26, some 2)], [(27, some 3)], [(4, none)], [(29, some 5)], [(28, some 4), (30, some 6)], [(31, some 7)], [(1, none)], [(33, some 9)], [(34, some 10)], [(32, some 8), (35, some 11)], [(36, some 12)], [(3, none)], [(37, some 13), (38, some 14)], [(39, some 15)]] [some 24, some 25, some 26, some 27, some 28, some 29, some 30, some 31, some 32, some 33, some 34, some 35, some 36, some 37, some 38, some 39, some 2] (fun g => [.pointer (some ⟨N, 0, none⟩), .string sk, g, .string sh, .string t1, .slice (some ⟨C, 0, none⟩) 1 1, .string sd, .string t2, .string t3, .pointer (some ⟨N, 3, none⟩), .slice pp nP dp, .string sp, .string t4, .string t5, .string ⟨#[103, 111, 110, 101]⟩, .string t6, .string t6]) [2] (fun (bs : List Bool) (g : Value) wq => Hid (Kp Nb w6 wq ∧ (bs.getD 0 false = true → BySl Nb wq g key))) (by kernel_rfl) (by kernel_rfl) (fun g => by kernel_rfl) (by kernel_rfl) ?hS (GFrom.all (n := 17) (by kernel_rfl) ?hstep) ?hend
      case hstep =>
        refine GFrom.cons (GStep.val _ rfl rfl _ rfl (fun g => .pointer (some ⟨N, 0, none⟩)) (fun _ => rfl) (fun _ => trivial) (fun bs g ev wq hS he hr => ?_)) ?_
        · have r0 : ev (.tmp 1) = .pointer (some ⟨N, 0, none⟩) := hr (1, none) (by simp); have hk := he.1; clear hr he
          go_simp
        refine GFrom.cons (GStep.val _ rfl rfl _ rfl (fun g => .string sk) (fun _ => rfl) (fun _ => trivial) (fun bs g ev wq hS he hr => ?_)) ?_
        · have r0 : ev (.tmp 24) = .pointer (some ⟨N, 0, none⟩) := hr (24, some 0) (by simp); have hk := he.1; clear hr he
          have c0 := (show World.cell? wq ⟨N, 0, none⟩ = some (.string sk) from (HB.out.kept hS.out.1 (fun h => h)).cell 0)
          go_simp
        refine GFrom.cons (GStep.make _ rfl _ rfl (fun _ => trivial) (fun Lx g ev wq hL hd hcl hS he hr => ?_)) ?_
        · have r0 : ev (.tmp 25) = .string sk := hr (25, some 1) (by simp); clear hr he
          have e2 : bitsAt [2] (upd Lx 2) = [true] := by simp [bitsAt, upd]
          obtain ⟨y, c, w', hrun, hby, hk⟩ := HCV.out wq
          exact ⟨.slice y nK c, .slice y nK c, w', exec_convT rfl r0 hrun, rfl, old_setV _ hL rfl, by rw [e2]; exact hid ⟨hS.out.1.trans hk (fun _ _ h => h), fun _ => hby⟩⟩
        refine GFrom.cons (GStep.call _ rfl rfl _ rfl (fun g => .string sh) (fun _ => rfl) (fun _ => trivial) 56 (fun g => #[g]) (fun bs g ev wq hS he hr => ?_) (fun L g wq hd hL hS => ?_)) ?_
        · have r0 : ev (.tmp 26) = g := hr (26, some 2) (by simp); have hk := he.1; have hf := he.2; clear hr he
          go_simp
        · have l2 : L 2 = true := hd 2 (by kernel_rfl); have e : bitsAt [2] L = [true] := by simp [bitsAt, l2]
          rw [e] at hS ⊢
          exact (CK.out g wq (hS.out.2 rfl)).mono fun e w' ⟨h1, h2⟩ => ⟨h1, hid ⟨hS.out.1.trans h2 (fun _ _ h => h), fun hb => (hS.out.2 hb).kept h2 (fun _ h => h)⟩⟩
        refine GFrom.cons (GStep.val _ rfl rfl _ rfl (fun g => .string t1) (fun _ => rfl) (fun _ => trivial) (fun bs g ev wq hS he hr => ?_)) ?_
        · have r0 : ev (.tmp 27) = .string sh := hr (27, some 3) (by simp); have hk := he.1; clear hr he
          have a1 := A1.out wq; go_simp
        refine GFrom.cons (GStep.val _ rfl rfl _ rfl (fun g => .slice (some ⟨C, 0, none⟩) 1 1) (fun _ => rfl) (fun _ => trivial) (fun bs g ev wq hS he hr => ?_)) ?_
        · have r0 : ev (.tmp 4) = .slice (some ⟨C, 0, none⟩) 1 1 := hr (4, none) (by simp); have hk := he.1; clear hr he
          go_simp
        refine GFrom.cons (GStep.call _ rfl rfl _ rfl (fun g => .string sd) (fun _ => rfl) (fun _ => trivial) 78 (fun g => #[.slice (some ⟨C, 0, none⟩) 1 1]) (fun bs g ev wq hS he hr => ?_) (fun L g wq hd hL hS => ?_)) ?_
        · have r0 : ev (.tmp 29) = .slice (some ⟨C, 0, none⟩) 1 1 := hr (29, some 5) (by simp); have hk := he.1; have hf := he.2; clear hr he
          go_simp
        · exact (CD.out wq hS.out.1).mono fun e w' ⟨h1, h2⟩ => ⟨h1, hid ⟨hS.out.1.trans h2 (fun _ _ h => h), fun hb => (hS.out.2 hb).kept h2 (fun _ h => h)⟩⟩
        refine GFrom.cons (GStep.val _ rfl rfl _ rfl (fun g => .string t2) (fun _ => rfl) (fun _ => trivial) (fun bs g ev wq hS he hr => ?_)) ?_
        · have r0 : ev (.tmp 28) = .string t1 := hr (28, some 4) (by simp); have r1 : ev (.tmp 30) = .string sd := hr (30, some 6) (by simp); have hk := he.1; clear hr he
          have a1 := A2.out wq; go_simp
        refine GFrom.cons (GStep.val _ rfl rfl _ rfl (fun g => .string t3) (fun _ => rfl) (fun _ => trivial) (fun bs g ev wq hS he hr => ?_)) ?_
        · have r0 : ev (.tmp 31) = .string t2 := hr (31, some 7) (by simp); have hk := he.1; clear hr he
          have a1 := A3.out wq; go_simp
        refine GFrom.cons (GStep.val _ rfl rfl _ rfl (fun g => .pointer (some ⟨N, 3, none⟩)) (fun _ => rfl) (fun _ => trivial) (fun bs g ev wq hS he hr => ?_)) ?_
        · have r0 : ev (.tmp 1) = .pointer (some ⟨N, 0, none⟩) := hr (1, none) (by simp); have hk := he.1; clear hr he
          go_simp
        refine GFrom.cons (GStep.val _ rfl rfl _ rfl (fun g => .slice pp nP dp) (fun _ => rfl) (fun _ => trivial) (fun bs g ev wq hS he hr => ?_)) ?_
        · have r0 : ev (.tmp 33) = .pointer (some ⟨N, 3, none⟩) := hr (33, some 9) (by simp); have hk := he.1; clear hr he
          have c0 := (show World.cell? wq ⟨N, 3, none⟩ = some (.slice pp nP dp) from (HB.out.kept hS.out.1 (fun h => h)).cell 3)
          go_simp
        refine GFrom.cons (GStep.call _ rfl rfl _ rfl (fun g => .string sp) (fun _ => rfl) (fun _ => trivial) 78 (fun g => #[.slice pp nP dp]) (fun bs g ev wq hS he hr => ?_) (fun L g wq hd hL hS => ?_)) ?_
        · have r0 : ev (.tmp 34) = .slice pp nP dp := hr (34, some 10) (by simp); have hk := he.1; have hf := he.2; clear hr he
          go_simp
        · exact (CP.out wq hS.out.1).mono fun e w' ⟨h1, h2⟩ => ⟨h1, hid ⟨hS.out.1.trans h2 (fun _ _ h => h), fun hb => (hS.out.2 hb).kept h2 (fun _ h => h)⟩⟩
        refine GFrom.cons (GStep.val _ rfl rfl _ rfl (fun g => .string t4) (fun _ => rfl) (fun _ => trivial) (fun bs g ev wq hS he hr => ?_)) ?_
        · have r0 : ev (.tmp 32) = .string t3 := hr (32, some 8) (by simp); have r1 : ev (.tmp 35) = .string sp := hr (35, some 11) (by simp); have hk := he.1; clear hr he
          have a1 := A4.out wq; go_simp
        refine GFrom.cons (GStep.val _ rfl rfl _ rfl (fun g => .string t5) (fun _ => rfl) (fun _ => trivial) (fun bs g ev wq hS he hr => ?_)) ?_
        · have r0 : ev (.tmp 36) = .string t4 := hr (36, some 12) (by simp); have hk := he.1; clear hr he
          have a1 := A5.out wq; go_simp
        refine GFrom.cons (GStep.val _ rfl rfl _ rfl (fun g => .string ⟨#[103, 111, 110, 101]⟩) (fun _ => rfl) (fun _ => trivial) (fun bs g ev wq hS he hr => ?_)) ?_
        · have r0 : ev (.tmp 3) = .string ⟨#[103, 111, 110, 101]⟩ := hr (3, none) (by simp); have hk := he.1; clear hr he
          go_simp
        refine GFrom.cons (GStep.val _ rfl rfl _ rfl (fun g => .string t6) (fun _ => rfl) (fun _ => trivial) (fun bs g ev wq hS he hr => ?_)) ?_
        · have r0 : ev (.tmp 37) = .string t5 := hr (37, some 13) (by simp); have r1 : ev (.tmp 38) = .string ⟨#[103, 111, 110, 101]⟩ := hr (38, some 14) (by simp); have hk := he.1; clear hr he
          have a1 := A6.out wq; go_simp
        refine GFrom.cons (GStep.val _ rfl rfl _ rfl (fun g => .string t6) (fun _ => rfl) (fun _ => trivial) (fun bs g ev wq hS he hr => ?_)) ?_
        · have r0 : ev (.tmp 39) = .string t6 := hr (39, some 15) (by simp); have hk := he.1; clear hr he
          go_simp
        exact GFrom.nil
      case hS => exact hid ⟨(Kp.refl Nb w6).drew, (fun e => by cases e)⟩
      case hend =>
        intro g w7 h7
        have K7 := hid (KT.out.trans h7.out.1 (fun _ _ h => h))
        clear h7
        simp only [putAll, List.zip_cons_cons, List.zip_nil_right, List.foldl_cons, List.foldl_nil, Act.put, List.setIfInBounds_toArray, List.set_cons_zero, List.set_cons_succ]
        go_wp2
        go_ret
        exact ⟨by rw [HT6.out]; rfl, K7.out⟩
    | false =>
      have HV2 : Hid (sv = sw) := hid HSVS.out
      obtain rfl := HV2.out
      clear HV2 HSVS
      go_upto_region 7 with (first | (refine wpList_val (by rfl) _ _ (exec_buildSliceV (qs := #[(0, .agg #[.int .i64 dn, .int .i64 dd, .int .i64 dd])]) rfl (by rfl) (make_clk1 _ dn dd dd)) ?_))
      try rw [hC]
      rw [← hw6]
      clear hw6 hC c4 d1 d2
      refine region_ghost (g0 := (undef : Value)) [none, none, some 16, none, none, none, none, none, none, none, none, none, none, none, none, none, none, none, none, none, none, none, none, none, some 0, some 1, some 2, some 3, some 4, some 5, some 6, some 7, some 8, some 9, some 10, some 11, some 12, some 13, some 14, some 15] [[(1, none)], [(24, some 0)], [(25, some 1)], [(26, some 2)], [(27, some 3)], [(4, none)], [(29, some 5)], [(28, some 4), (30, some 6)], [(31, some 7)], [(1, none)], [(33, some 9)], [(34, some 10)], [(32, some 8), (35, some 11)], [(36, some 12)], [(3, none)], [(37, some 13), (38, some 14)], [(39, some 15)]] [some 24, some 25, some 26, some 27, some 28, some 29, some 30, some 31, some 32, some 33, some 34, some 35, some 36, some 37, some 38, some 39, some 2] (fun g => [.pointer (some ⟨N, 0, none⟩), .string sk, g, .string sh, .string t1, .slice (some ⟨C, 0, none⟩) 1 1, .string sd, .string t2, .string t3, .pointer (some ⟨N, 3, none⟩), .slice pp nP dp, .string sp, .string t4, .string t5, .string sv, .string t6, .string t6]) [2] (fun (bs : List Bool) (g : Value) wq => Hid (Kp Nb w6 wq ∧ (bs.getD 0 false = true → BySl Nb wq g key))) (by kernel_rfl) (by kernel_rfl) (fun g => by kernel_rfl) (by kernel_rfl) ?hS (GFrom.all (n := 17) (by kernel_rfl) ?hstep) ?hend
      case hstep =>
        refine GFrom.cons (GStep.val _ rfl rfl _ rfl (fun g => .pointer (some ⟨N, 0, none⟩)) (fun _ => rfl) (fun _ => trivial) (fun bs g ev wq hS he hr => ?_)) ?_
        · have r0 : ev (.tmp 1) = .pointer (some ⟨N, 0, none⟩) := hr (1, none) (by simp); have hk := he.1; clear hr he
          go_simp
        refine GFrom.cons (GStep.val _ rfl rfl _ rfl (fun g => .string sk) (fun _ => rfl) (fun _ => trivial) (fun bs g ev wq hS he hr => ?_)) ?_
        · have r0 : ev (.tmp 24) = .pointer (some ⟨N, 0, none⟩) := hr (24, some 0) (by simp); have hk := he.1; clear hr he
          have c0 := (show World.cell? wq ⟨N, 0, none⟩ = some (.string sk) from (HB.out.kept hS.out.1 (fun h => h)).cell 0)
          go_simp
        refine GFrom.cons (GStep.make _ rfl _ rfl (fun _ => trivial) (fun Lx g ev wq hL hd hcl hS he hr => ?_)) ?_
        · have r0 : ev (.tmp 25) = .string sk := hr (25, some 1) (by simp); clear hr he
          have e2 : bitsAt [2] (upd Lx 2) = [true] := by simp [bitsAt, upd]
          obtain ⟨y, c, w', hrun, hby, hk⟩ := HCV.out wq
          exact ⟨.slice y nK c, .slice y nK c, w', exec_convT rfl r0 hrun, rfl, old_setV _ hL rfl, by rw [e2]; exact hid ⟨hS.out.1.trans hk (fun _ _ h => h), fun _ => hby⟩⟩
        refine GFrom.cons (GStep.call _ rfl rfl _ rfl (fun g => .string sh) (fun _ => rfl) (fun _ => trivial) 56 (fun g => #[g]) (fun bs g ev wq hS he hr => ?_) (fun L g wq hd hL hS => ?_)) ?_
        · have r0 : ev (.tmp 26) = g := hr (26, some 2) (by simp); have hk := he.1; have hf := he.2; clear hr he
          go_simp
        · have l2 : L 2 = true := hd 2 (by kernel_rfl); have e : bitsAt [2] L = [true] := by simp [bitsAt, l2]
          rw [e] at hS ⊢
          exact (CK.out g wq (hS.out.2 rfl)).mono fun e w' ⟨h1, h2⟩ => ⟨h1, hid ⟨hS.out.1.trans h2 (fun _ _ h => h), fun hb => (hS.out.2 hb).kept h2 (fun _ h => h)⟩⟩
        refine GFrom.cons (GStep.val _ rfl rfl _ rfl (fun g => .string t1) (fun _ => rfl) (fun _ => trivial) (fun bs g ev wq hS he hr => ?_)) ?_
        · have r0 : ev (.tmp 27) = .string sh := hr (27, some 3) (by simp); have hk := he.1; clear hr he
          have a1 := A1.out wq; go_simp
        refine GFrom.cons (GStep.val _ rfl rfl _ rfl (fun g => .slice (some ⟨C, 0, none⟩) 1 1) (fun _ => rfl) (fun _ => trivial) (fun bs g ev wq hS he hr => ?_)) ?_
        · have r0 : ev (.tmp 4) = .slice (some ⟨C, 0, none⟩) 1 1 := hr (4, none) (by simp); have hk := he.1; clear hr he
          go_simp
        refine GFrom.cons (GStep.call _ rfl rfl _ rfl (fun g => .string sd) (fun _ => rfl) (fun _ => trivial) 78 (fun g => #[.slice (some ⟨C, 0, none⟩) 1 1]) (fun bs g ev wq hS he hr => ?_) (fun L g wq hd hL hS => ?_)) ?_
        · have r0 : ev (.tmp 29) = .slice (some ⟨C, 0, none⟩) 1 1 := hr (29, some 5) (by simp); have hk := he.1; have hf := he.2; clear hr he
          go_simp
        · exact (CD.out wq hS.out.1).mono fun e w' ⟨h1, h2⟩ => ⟨h1, hid ⟨hS.out.1.trans h2 (fun _ _ h => h), fun hb => (hS.out.2 hb).kept h2 (fun _ h => h)⟩⟩
        refine GFrom.cons (GStep.val _ rfl rfl _ rfl (fun g => .string t2) (fun _ => rfl) (fun _ => trivial) (fun bs g ev wq hS he hr => ?_)) ?_
        · have r0 : ev (.tmp 28) = .string t1 := hr (28, some 4) (by simp); have r1 : ev (.tmp 30) = .string sd := hr (30, some 6) (by simp); have hk := he.1; clear hr he
          have a1 := A2.out wq; go_simp
        refine GFrom.cons (GStep.val _ rfl rfl _ rfl (fun g => .string t3) (fun _ => rfl) (fun _ => trivial) (fun bs g ev wq hS he hr => ?_)) ?_
        · have r0 : ev (.tmp 31) = .string t2 := hr (31, some 7) (by simp); have hk := he.1; clear hr he
          have a1 := A3.out wq; go_simp
        refine GFrom.cons (GStep.val _ rfl rfl _ rfl (fun g => .pointer (some ⟨N, 3, none⟩)) (fun _ => rfl) (fun _ => trivial) (fun bs g ev wq hS he hr => ?_)) ?_
        · have r0 : ev (.tmp 1) = .pointer (some ⟨N, 0, none⟩) := hr (1, none) (by simp); have hk := he.1; clear hr he
          go_simp
        refine GFrom.cons (GStep.val _ rfl rfl _ rfl (fun g => .slice pp nP dp) (fun _ => rfl) (fun _ => trivial) (fun bs g ev wq hS he hr => ?_)) ?_
        · have r0 : ev (.tmp 33) = .pointer (some ⟨N, 3, none⟩) := hr (33, some 9) (by simp); have hk := he.1; clear hr he
          have c0 := (show World.cell? wq ⟨N, 3, none⟩ = some (.slice pp nP dp) from (HB.out.kept hS.out.1 (fun h => h)).cell 3)
          go_simp
        refine GFrom.cons (GStep.call _ rfl rfl _ rfl (fun g => .string sp) (fun _ => rfl) (fun _ => trivial) 78 (fun g => #[.slice pp nP dp]) (fun bs g ev wq hS he hr => ?_) (fun L g wq hd hL hS => ?_)) ?_
        · have r0 : ev (.tmp 34) = .slice pp nP dp := hr (34, some 10) (by simp); have hk := he.1; have hf := he.2; clear hr he
          go_simp
        · exact (CP.out wq hS.out.1).mono fun e w' ⟨h1, h2⟩ => ⟨h1, hid ⟨hS.out.1.trans h2 (fun _ _ h => h), fun hb => (hS.out.2 hb).kept h2 (fun _ h => h)⟩⟩
        refine GFrom.cons (GStep.val _ rfl rfl _ rfl (fun g => .string t4) (fun _ => rfl) (fun _ => trivial) (fun bs g ev wq hS he hr => ?_)) ?_
        · have r0 : ev (.tmp 32) = .string t3 := hr (32, some 8) (by simp); have r1 : ev (.tmp 35) = .string sp := hr (35, some 11) (by simp); have hk := he.1; clear hr he
          have a1 := A4.out wq; go_simp
        refine GFrom.cons (GStep.val _ rfl rfl _ rfl (fun g => .string t5) (fun _ => rfl) (fun _ => trivial) (fun bs g ev wq hS he hr => ?_)) ?_
        · have r0 : ev (.tmp 36) = .string t4 := hr (36, some 12) (by simp); have hk := he.1; clear hr he
          have a1 := A5.out wq; go_simp
        refine GFrom.cons (GStep.val _ rfl rfl _ rfl (fun g => .string sv) (fun _ => rfl) (fun _ => trivial) (fun bs g ev wq hS he hr => ?_)) ?_
        · have r0 : ev (.tmp 3) = .string sv := hr (3, none) (by simp); have hk := he.1; clear hr he
          go_simp
        refine GFrom.cons (GStep.val _ rfl rfl _ rfl (fun g => .string t6) (fun _ => rfl) (fun _ => trivial) (fun bs g ev wq hS he hr => ?_)) ?_
        · have r0 : ev (.tmp 37) = .string t5 := hr (37, some 13) (by simp); have r1 : ev (.tmp 38) = .string sv := hr (38, some 14) (by simp); have hk := he.1; clear hr he
          have a1 := A6.out wq; go_simp
        refine GFrom.cons (GStep.val _ rfl rfl _ rfl (fun g => .string t6) (fun _ => rfl) (fun _ => trivial) (fun bs g ev wq hS he hr => ?_)) ?_
        · have r0 : ev (.tmp 39) = .string t6 := hr (39, some 15) (by simp); have hk := he.1; clear hr he
          go_simp
        exact GFrom.nil
      case hS => exact hid ⟨(Kp.refl Nb w6).drew, (fun e => by cases e)⟩
      case hend =>
        intro g w7 h7
        have K7 := hid (KT.out.trans h7.out.1 (fun _ _ h => h))
        clear h7
        simp only [putAll, List.zip_cons_cons, List.zip_nil_right, List.foldl_cons, List.foldl_nil, Act.put, List.setIfInBounds_toArray, List.set_cons_zero, List.set_cons_succ]
        go_wp2
        go_ret
        exact ⟨by rw [HT6.out]; rfl, K7.out⟩
set_option maxRecDepth 100000 in
set_option maxHeartbeats 8000000 in
theorem ritext_any (x : ItQ) (vp vv : Value) (w : World) (h : ItOk w x vp vv) :
    Calls Tryz.prog 36 #[itVq x vp vv] w fun e w' => e = .returned (.string (bs (textI x))) ∧ Kp Nb w w' := by
  obtain ⟨pp, dp, rfl⟩ := h.past.shape
  obtain ⟨pv, dv, rfl⟩ := by_shape h.val
  obtain ⟨N, hN⟩ : ∃ N, w.heap.size = N := ⟨_, rfl⟩
  obtain ⟨W, hW⟩ : ∃ W, W = w.alloc (.cells #[.string (st x.key), .int .i64 x.dn, .int .i64 x.dd, .slice pp x.past.length dp, .bool x.gone, .slice pv x.val.length dv] 28) := ⟨_, rfl⟩
  have HB1 : Hid (Blk W N 28 (itL (st x.key) x.dn x.dd (.slice pp x.past.length dp) x.gone (.slice pv x.val.length dv))) := hid (by rw [hW, ← hN]; exact Blk.new w _ (itL (st x.key) x.dn x.dd (.slice pp x.past.length dp) x.gone (.slice pv x.val.length dv)))
  have K0 : Hid (Kp Nb w W) := hid (by rw [hW]; exact (Kp.refl Nb w).alloc _)
  have HX := hid (h.kept K0.out)
  have CR := hid (riright_any x _ _ W HX.out)
  have HTX : Hid (textI x = if rightI x then textIt x else []) := hid rfl
  obtain ⟨TX, hTX⟩ : ∃ t, textI x = t := ⟨_, rfl⟩
  obtain ⟨R, hR⟩ : ∃ b, rightI x = b := ⟨_, rfl⟩
  rw [hTX] at HTX ⊢
  have HRX := hid hR
  rw [hR] at HTX CR
  cases R with
  | false =>
    have HT0 : Hid (TX = []) := hid HTX.out
    clear h hTX hR HX HTX HRX
    obtain ⟨key, dn, dd, past, gn, val⟩ := x
    unfold itVq itV at *
    dsimp only at *
    go_enter Tryz.func36, Tryz.ntmps36
    go_upto_region 1 with fail
    try rw [hN]
    rw [← hW]
    clear hW hN
    go_wp2_with (first | (refine wpList_val (by rfl) _ _ (exec_loadD (x := .tmp 1) rfl (by rfl) (load_item HB1.out)) ?_))
    refine CR.out.mono ?_
    rintro r w1 ⟨rfl, k1⟩
    have K1 := hid (K0.out.trans k1 (fun _ _ h => h))
    clear k1
    go_wp2
    go_ret
    exact ⟨by rw [HT0.out]; rfl, K1.out⟩
  | true =>
    have hf := rightI_facts HRX.out
    have hdg := dot_good HRX.out
    have HTX2 : Hid (TX = textIt x) := hid HTX.out
    have HSV : Hid (valT x = if x.gone then [103, 111, 110, 101] else hexW x.val) := hid rfl
    have HPAST := hid HX.out.past
    have HVAL := hid HX.out.val
    have HKEY := hid HX.out.key
    have HLEN : Hid (x.key.length ≤ 24 ∧ x.past.length ≤ 32 ∧ x.val.length ≤ 64 ∧ 1 ≤ x.key.length) := hid ⟨hf.1, hf.2.2.1, hf.2.2.2.2.1, hf.2.2.2.2.2.1⟩
    have HDR : Hid (0 ≤ x.dn ∧ x.dn ≤ 7 ∧ 1 ≤ x.dd ∧ x.dd ≤ 1099511627776) := hid hf.2.1
    have HPR := hid hf.2.2.2.1
    have HDG := hid hdg
    have LP : Hid ((textC x.past).length ≤ 3000) := hid (by have := textC_len HPR.out; have := HLEN.out; omega)
    have LK : Hid ((hexL x.key).length ≤ 48) := hid (by rw [hexL_len]; have := HLEN.out; omega)
    have LR : Hid ((textR (x.dn, x.dd, x.dd)).length ≤ 77) := hid (textR_len _ (good_okV hdg))
    have LV : Hid ((valT x).length ≤ 128) := hid (by
      rw [HSV.out]
      split
      · decide
      · unfold hexW
        split
        · decide
        · rw [hexL_len]; have := HLEN.out; omega)
    have A1 : Hid (∀ w : World, (Op.stringOp .add (bs (hexL x.key)) ⟨#[32]⟩).run Tryz.prog w = .ok (.string (bs (hexL x.key ++ [32]))) w) := hid (fun w => add_bs w _ [32] (by have := LK.out; omega) (by decide))
    have A2 : Hid (∀ w : World, (Op.stringOp .add (bs (hexL x.key ++ [32])) (bs (textR (x.dn, x.dd, x.dd)))).run Tryz.prog w = .ok (.string (bs (hexL x.key ++ [32] ++ textR (x.dn, x.dd, x.dd)))) w) := hid (fun w => add_bs w _ _ (by simp only [List.length_append, List.length_cons, List.length_nil]; have := LK.out; omega) (by have := LR.out; omega))
    have A3 : Hid (∀ w : World, (Op.stringOp .add (bs (hexL x.key ++ [32] ++ textR (x.dn, x.dd, x.dd))) ⟨#[32, 91]⟩).run Tryz.prog w = .ok (.string (bs (hexL x.key ++ [32] ++ textR (x.dn, x.dd, x.dd) ++ [32, 91]))) w) := hid (fun w => add_bs w _ [32, 91] (by simp only [List.length_append, List.length_cons, List.length_nil]; have := LK.out; have := LR.out; omega) (by decide))
    have A4 : Hid (∀ w : World, (Op.stringOp .add (bs (hexL x.key ++ [32] ++ textR (x.dn, x.dd, x.dd) ++ [32, 91])) (bs (textC x.past))).run Tryz.prog w = .ok (.string (bs (hexL x.key ++ [32] ++ textR (x.dn, x.dd, x.dd) ++ [32, 91] ++ textC x.past))) w) := hid (fun w => add_bs w _ _ (by simp only [List.length_append, List.length_cons, List.length_nil]; have := LK.out; have := LR.out; omega) (by have := LP.out; omega))
    have A5 : Hid (∀ w : World, (Op.stringOp .add (bs (hexL x.key ++ [32] ++ textR (x.dn, x.dd, x.dd) ++ [32, 91] ++ textC x.past)) ⟨#[93, 32]⟩).run Tryz.prog w = .ok (.string (bs (hexL x.key ++ [32] ++ textR (x.dn, x.dd, x.dd) ++ [32, 91] ++ textC x.past ++ [93, 32]))) w) := hid (fun w => add_bs w _ [93, 32] (by simp only [List.length_append, List.length_cons, List.length_nil]; have := LK.out; have := LR.out; have := LP.out; omega) (by decide))
    have A6 : Hid (∀ w : World, (Op.stringOp .add (bs (hexL x.key ++ [32] ++ textR (x.dn, x.dd, x.dd) ++ [32, 91] ++ textC x.past ++ [93, 32])) (bs (valT x))).run Tryz.prog w = .ok (.string (bs TX)) w) := hid (fun w => by
      rw [add_bs w _ _ (by simp only [List.length_append, List.length_cons, List.length_nil]; have := LK.out; have := LR.out; have := LP.out; omega) (by have := LV.out; omega), HTX2.out]
      unfold textIt pastT
      simp only [List.append_assoc, List.cons_append, List.nil_append])
    have CV := hid (fun wx => rhex_any x.val wx HVAL.out.1 (by have := HLEN.out; omega))
    have CK := hid (fun wx => rhex_any x.key wx HKEY.out (by have := HLEN.out; omega))
    have CP0 := hid (fun wx (k : Kp Nb W wx) => rtext_any _ x.past wx (HPAST.out.kept k) (by have := HLEN.out; omega))
    have CD : Hid (∀ wx, Calls Tryz.prog 79 #[dotV x.dn x.dd] wx fun e w' => e = .returned (.string (bs (textR (x.dn, x.dd, x.dd)))) ∧ Kp Nb wx w') := hid (fun wx => by
      have h2 := rdot_any x.dn x.dd wx (by have := HDR.out; omega) (by have := HDR.out; omega) (by have := HDR.out; omega) (by have := HDR.out; omega)
      have e : textD x.dn x.dd = textR (x.dn, x.dd, x.dd) := by unfold textD textR; dsimp only; rw [if_neg (by omega), List.append_nil]
      rwa [e] at h2)
    have HCVV := hid (fun wx (k : Kp Nb W wx) => conv_any (HVAL.out.kept k (fun _ h => h)))
    have HVE : Hid (((bs (hexL x.val)).toList == []) = decide (x.val.length = 0)) := hid (by
      have e : (bs (hexL x.val)).toList = hexL x.val := ByteArray.toList_mk _
      rw [e, Bool.eq_iff_iff, beq_iff_eq, decide_eq_true_eq, ← List.length_eq_zero_iff, hexL_len]
      omega)
    have HVW : Hid (bs (hexW x.val) = if x.val.length = 0 then ⟨#[46]⟩ else bs (hexL x.val)) := hid (by unfold hexW; split <;> rfl)
    obtain ⟨t1, ht1⟩ : ∃ t, bs (hexL x.key ++ [32]) = t := ⟨_, rfl⟩
    obtain ⟨t2, ht2⟩ : ∃ t, bs (hexL x.key ++ [32] ++ textR (x.dn, x.dd, x.dd)) = t := ⟨_, rfl⟩
    obtain ⟨t3, ht3⟩ : ∃ t, bs (hexL x.key ++ [32] ++ textR (x.dn, x.dd, x.dd) ++ [32, 91]) = t := ⟨_, rfl⟩
    obtain ⟨t4, ht4⟩ : ∃ t, bs (hexL x.key ++ [32] ++ textR (x.dn, x.dd, x.dd) ++ [32, 91] ++ textC x.past) = t := ⟨_, rfl⟩
    obtain ⟨t5, ht5⟩ : ∃ t, bs (hexL x.key ++ [32] ++ textR (x.dn, x.dd, x.dd) ++ [32, 91] ++ textC x.past ++ [93, 32]) = t := ⟨_, rfl⟩
    obtain ⟨t6, ht6⟩ : ∃ t, bs TX = t := ⟨_, rfl⟩
    obtain ⟨sh, hsh⟩ : ∃ t, bs (hexL x.key) = t := ⟨_, rfl⟩
    obtain ⟨sd, hsd⟩ : ∃ t, bs (textR (x.dn, x.dd, x.dd)) = t := ⟨_, rfl⟩
    obtain ⟨sp, hsp⟩ : ∃ t, bs (textC x.past) = t := ⟨_, rfl⟩
    obtain ⟨sv, hsv⟩ : ∃ t, bs (valT x) = t := ⟨_, rfl⟩
    have HSVS : Hid (sv = if x.gone then ⟨#[103, 111, 110, 101]⟩ else bs (hexW x.val)) := hid (by rw [← hsv, HSV.out]; split <;> rfl)
    have HT6 := hid ht6
    rw [ht1] at A1 A2
    rw [ht2] at A2 A3
    rw [ht3] at A3 A4
    rw [ht4] at A4 A5
    rw [ht5] at A5 A6
    rw [ht6] at A6
    rw [hsh] at A1 CK
    rw [hsd] at A2 CD
    rw [hsp] at A4 CP0
    rw [hsv] at A6
    obtain ⟨sx, hsx⟩ : ∃ t, bs (hexL x.val) = t := ⟨_, rfl⟩
    obtain ⟨su, hsu⟩ : ∃ t, st x.val = t := ⟨_, rfl⟩
    rw [hsx] at CV HVE HVW
    rw [hsu] at CV HCVV
    rw [HVW.out] at HSVS
    clear ht1 ht2 ht3 ht4 ht5 ht6 hsh hsd hsp hsv hsx hsu hf hdg LP LK LR LV HPR HX HTX HTX2 HSV h hTX hR HRX HPAST HVAL HKEY HDR HVW HDG
    obtain ⟨key, dn, dd, past, gn, val⟩ := x
    unfold itVq itV at *
    dsimp only at *
    obtain ⟨nP, hnP⟩ : ∃ n, past.length = n := ⟨_, rfl⟩
    obtain ⟨nV, hnV⟩ : ∃ n, val.length = n := ⟨_, rfl⟩
    obtain ⟨nK, hnK⟩ : ∃ n, key.length = n := ⟨_, rfl⟩
    obtain ⟨sk, hsk⟩ : ∃ s, st key = s := ⟨_, rfl⟩
    simp only [hnP, hnV, hnK, hsk] at hW HB1 CR CK CP0 HCVV HVE HSVS HLEN ⊢
    clear hnP hnV hnK hsk
    obtain ⟨be, hbe⟩ : ∃ b, decide (nV = 0) = b := ⟨_, rfl⟩
    have hve : (sx.toList == []) = be := HVE.out.trans hbe
    have HSV2 : Hid (sv = if gn then ⟨#[103, 111, 110, 101]⟩ else if be then ⟨#[46]⟩ else sx) := hid (by rw [HSVS.out, ← hbe]; simp only [decide_eq_true_eq])
    clear HVE HSVS hbe
    go_enter Tryz.func36, Tryz.ntmps36
    go_upto_region 1 with fail
    try rw [hN]
    rw [← hW]
    clear hW hN
    go_wp2_with (first | (refine wpList_val (by rfl) _ _ (exec_loadD (x := .tmp 1) rfl (by rfl) (load_item HB1.out)) ?_))
    refine CR.out.mono ?_
    rintro r w1 ⟨rfl, k1⟩
    have KW1 := hid k1
    have HB2 := hid (HB1.out.kept k1 (fun h => h))
    have c5 : w1.cell? ⟨N, 5, none⟩ = some (.slice pv nV dv) := HB2.out.cell 5
    have hcv := HCVV.out w1 k1
    clear k1 HB1 CR
    go_wp2_with fail
    refine (CV.out w1).mono ?_
    rintro r w6 ⟨rfl, k2⟩
    have K6 := hid (KW1.out.trans k2 (fun _ _ h => h))
    have HB := hid (HB2.out.kept k2 (fun h => h))
    have c4 : w6.cell? ⟨N, 4, none⟩ = some (.bool gn) := HB.out.cell 4
    have CP : Hid (∀ wx, Kp Nb w6 wx → _) := hid (fun wx (k : Kp Nb w6 wx) => CP0.out wx (K6.out.trans k (fun _ _ h => h)))
    have KT := hid (K0.out.trans K6.out (fun _ _ h => h))
    clear k2 HB2 CV KW1 c5 hcv HCVV CP0 K6 K0
    cases gn with
    | true =>
      have HV2 : Hid (sv = ⟨#[103, 111, 110, 101]⟩) := hid HSV2.out
      obtain rfl := HV2.out
      clear HV2 HSV2
      go_upto_region 8 with fail
      clear c4
      refine region_vals2 [none, none, some 16, none, none, none, none, none, none, none, none, none, none, none, none, some 0, some 1, some 2, some 3, some 4, some 5, some 6, some 7, some 8, some 9, some 10, some 11, some 12, some 13, some 14, some 15] [[(1, none)], [(15, some 0)], [(16, some 1)], [(17, some 2)], [(1, none)], [(19, some 4)], [(20, some 5)], [(18, some 3), (21, some 6)], [(22, some 7)], [(1, none)], [(24, some 9)], [(25, some 10)], [(23, some 8), (26, some 11)], [(27, some 12)], [(3, none)], [(28, some 13), (29, some 14)], [(30, some 15)]] [some 15, some 16, some 17, some 18, some 19, some 20, some 21, some 22, some 23, some 24, some 25, some 26, some 27, some 28, some 29, some 30, some 2] [.pointer (some ⟨N, 0, none⟩), .string sk, .string sh, .string t1, .pointer (some ⟨N, 1, none⟩), dotV dn dd, .string sd, .string t2, .string t3, .pointer (some ⟨N, 3, none⟩), .slice pp nP dp, .string sp, .string t4, .string t5, .string ⟨#[103, 111, 110, 101]⟩, .string t6, .string t6] (fun wq => Hid (Kp Nb w6 wq)) (by kernel_rfl) (by kernel_rfl) (by kernel_rfl) ?hS (VFrom.all (n := 17) (by kernel_rfl) ?hstep) ?hend
      case hstep =>
        refine VFrom.cons (VStep.val _ rfl _ rfl (.pointer (some ⟨N, 0, none⟩)) rfl trivial (fun ev wq hS he hr => ?_)) ?_
        · have r0 : ev (.tmp 1) = .pointer (some ⟨N, 0, none⟩) := hr (1, none) (by simp); have hk := he.1; clear hr he
          go_simp
        refine VFrom.cons (VStep.val _ rfl _ rfl (.string sk) rfl trivial (fun ev wq hS he hr => ?_)) ?_
        · have r0 : ev (.tmp 15) = .pointer (some ⟨N, 0, none⟩) := hr (15, some 0) (by simp); have hk := he.1; clear hr he
          have c0 := (show World.cell? wq ⟨N, 0, none⟩ = some (.string sk) from (HB.out.kept hS.out (fun h => h)).cell 0)
          go_simp
        refine VFrom.cons (VStep.call _ rfl _ rfl (.string sh) rfl trivial 21 #[.string sk] (fun ev wq hS he hr => ?_) (fun wq hS => ?_)) ?_
        · have r0 : ev (.tmp 16) = .string sk := hr (16, some 1) (by simp); have hk := he.1; have hf := he.2; clear hr he
          go_simp
        · exact (CK.out wq).mono fun e w' ⟨h1, h2⟩ => ⟨h1, hid (hS.out.trans h2 (fun _ _ h => h))⟩
        refine VFrom.cons (VStep.val _ rfl _ rfl (.string t1) rfl trivial (fun ev wq hS he hr => ?_)) ?_
        · have r0 : ev (.tmp 17) = .string sh := hr (17, some 2) (by simp); have hk := he.1; clear hr he
          have a1 := A1.out wq; go_simp
        refine VFrom.cons (VStep.val _ rfl _ rfl (.pointer (some ⟨N, 1, none⟩)) rfl trivial (fun ev wq hS he hr => ?_)) ?_
        · have r0 : ev (.tmp 1) = .pointer (some ⟨N, 0, none⟩) := hr (1, none) (by simp); have hk := he.1; clear hr he
          go_simp
        refine VFrom.cons (VStep.val _ rfl _ rfl (dotV dn dd) rfl trivial (fun ev wq hS he hr => ?_)) ?_
        · have r0 : ev (.tmp 19) = .pointer (some ⟨N, 1, none⟩) := hr (19, some 4) (by simp); have hk := he.1; clear hr he
          exact exec_loadD rfl r0 (load_dotI (HB.out.kept hS.out (fun h => h)))
        refine VFrom.cons (VStep.call _ rfl _ rfl (.string sd) rfl trivial 79 #[dotV dn dd] (fun ev wq hS he hr => ?_) (fun wq hS => ?_)) ?_
        · have r0 : ev (.tmp 20) = dotV dn dd := hr (20, some 5) (by simp); have hk := he.1; have hf := he.2; clear hr he
          go_simp
        · exact (CD.out wq).mono fun e w' ⟨h1, h2⟩ => ⟨h1, hid (hS.out.trans h2 (fun _ _ h => h))⟩
        refine VFrom.cons (VStep.val _ rfl _ rfl (.string t2) rfl trivial (fun ev wq hS he hr => ?_)) ?_
        · have r0 : ev (.tmp 18) = .string t1 := hr (18, some 3) (by simp); have r1 : ev (.tmp 21) = .string sd := hr (21, some 6) (by simp); have hk := he.1; clear hr he
          have a1 := A2.out wq; go_simp
        refine VFrom.cons (VStep.val _ rfl _ rfl (.string t3) rfl trivial (fun ev wq hS he hr => ?_)) ?_
        · have r0 : ev (.tmp 22) = .string t2 := hr (22, some 7) (by simp); have hk := he.1; clear hr he
          have a1 := A3.out wq; go_simp
        refine VFrom.cons (VStep.val _ rfl _ rfl (.pointer (some ⟨N, 3, none⟩)) rfl trivial (fun ev wq hS he hr => ?_)) ?_
        · have r0 : ev (.tmp 1) = .pointer (some ⟨N, 0, none⟩) := hr (1, none) (by simp); have hk := he.1; clear hr he
          go_simp
        refine VFrom.cons (VStep.val _ rfl _ rfl (.slice pp nP dp) rfl trivial (fun ev wq hS he hr => ?_)) ?_
        · have r0 : ev (.tmp 24) = .pointer (some ⟨N, 3, none⟩) := hr (24, some 9) (by simp); have hk := he.1; clear hr he
          have c0 := (show World.cell? wq ⟨N, 3, none⟩ = some (.slice pp nP dp) from (HB.out.kept hS.out (fun h => h)).cell 3)
          go_simp
        refine VFrom.cons (VStep.call _ rfl _ rfl (.string sp) rfl trivial 80 #[.slice pp nP dp] (fun ev wq hS he hr => ?_) (fun wq hS => ?_)) ?_
        · have r0 : ev (.tmp 25) = .slice pp nP dp := hr (25, some 10) (by simp); have hk := he.1; have hf := he.2; clear hr he
          go_simp
        · exact (CP.out wq hS.out).mono fun e w' ⟨h1, h2⟩ => ⟨h1, hid (hS.out.trans h2 (fun _ _ h => h))⟩
        refine VFrom.cons (VStep.val _ rfl _ rfl (.string t4) rfl trivial (fun ev wq hS he hr => ?_)) ?_
        · have r0 : ev (.tmp 23) = .string t3 := hr (23, some 8) (by simp); have r1 : ev (.tmp 26) = .string sp := hr (26, some 11) (by simp); have hk := he.1; clear hr he
          have a1 := A4.out wq; go_simp
        refine VFrom.cons (VStep.val _ rfl _ rfl (.string t5) rfl trivial (fun ev wq hS he hr => ?_)) ?_
        · have r0 : ev (.tmp 27) = .string t4 := hr (27, some 12) (by simp); have hk := he.1; clear hr he
          have a1 := A5.out wq; go_simp
        refine VFrom.cons (VStep.val _ rfl _ rfl (.string ⟨#[103, 111, 110, 101]⟩) rfl trivial (fun ev wq hS he hr => ?_)) ?_
        · have r0 : ev (.tmp 3) = .string ⟨#[103, 111, 110, 101]⟩ := hr (3, none) (by simp); have hk := he.1; clear hr he
          go_simp
        refine VFrom.cons (VStep.val _ rfl _ rfl (.string t6) rfl trivial (fun ev wq hS he hr => ?_)) ?_
        · have r0 : ev (.tmp 28) = .string t5 := hr (28, some 13) (by simp); have r1 : ev (.tmp 29) = .string ⟨#[103, 111, 110, 101]⟩ := hr (29, some 14) (by simp); have hk := he.1; clear hr he
          have a1 := A6.out wq; go_simp
        refine VFrom.cons (VStep.val _ rfl _ rfl (.string t6) rfl trivial (fun ev wq hS he hr => ?_)) ?_
        · have r0 : ev (.tmp 30) = .string t6 := hr (30, some 15) (by simp); have hk := he.1; clear hr he
          go_simp
        exact VFrom.nil
      case hS => exact hid (Kp.refl Nb w6).drew
      case hend =>
        intro w7 h7
        have K7 := hid (KT.out.trans h7.out (fun _ _ h => h))
        clear h7
        simp only [putAll, List.zip_cons_cons, List.zip_nil_right, List.foldl_cons, List.foldl_nil, Act.put, List.setIfInBounds_toArray, List.set_cons_zero, List.set_cons_succ]
        go_wp2
        go_ret
        exact ⟨by rw [HT6.out]; rfl, K7.out⟩
    | false =>
      cases be with
      | true =>
        have HV2 : Hid (sv = ⟨#[46]⟩) := hid HSV2.out
        obtain rfl := HV2.out
        clear HV2 HSV2
        go_upto_region 8 with fail
        clear c4
        refine region_vals2 [none, none, some 16, none, none, none, none, none, none, none, none, none, none, none, none, some 0, some 1, some 2, some 3, some 4, some 5, some 6, some 7, some 8, some 9, some 10, some 11, some 12, some 13, some 14, some 15] [[(1, none)], [(15, some 0)], [(16, some 1)], [(17, some 2)], [(1, none)], [(19, some 4)], [(20, some 5)], [(18, some 3), (21, some 6)], [(22, some 7)], [(1, none)], [(24, some 9)], [(25, some 10)], [(23, some 8), (26, some 11)], [(27, some 12)], [(3, none)], [(28, some 13), (29, some 14)], [(30, some 15)]] [some 15, some 16, some 17, some 18, some 19, some 20, some 21, some 22, some 23, some 24, some 25, some 26, some 27, some 28, some 29, some 30, some 2] [.pointer (some ⟨N, 0, none⟩), .string sk, .string sh, .string t1, .pointer (some ⟨N, 1, none⟩), dotV dn dd, .string sd, .string t2, .string t3, .pointer (some ⟨N, 3, none⟩), .slice pp nP dp, .string sp, .string t4, .string t5, .string ⟨#[46]⟩, .string t6, .string t6] (fun wq => Hid (Kp Nb w6 wq)) (by kernel_rfl) (by kernel_rfl) (by kernel_rfl) ?hS (VFrom.all (n := 17) (by kernel_rfl) ?hstep) ?hend
        case hstep =>
          refine VFrom.cons (VStep.val _ rfl _ rfl (.pointer (some ⟨N, 0, none⟩)) rfl trivial (fun ev wq hS he hr => ?_)) ?_
          · have r0 : ev (.tmp 1) = .pointer (some ⟨N, 0, none⟩) := hr (1, none) (by simp); have hk := he.1; clear hr he
            go_simp
          refine VFrom.cons (VStep.val _ rfl _ rfl (.string sk) rfl trivial (fun ev wq hS he hr => ?_)) ?_
          · have r0 : ev (.tmp 15) = .pointer (some ⟨N, 0, none⟩) := hr (15, some 0) (by simp); have hk := he.1; clear hr he
            have c0 := (show World.cell? wq ⟨N, 0, none⟩ = some (.string sk) from (HB.out.kept hS.out (fun h => h)).cell 0)
            go_simp
          refine VFrom.cons (VStep.call _ rfl _ rfl (.string sh) rfl trivial 21 #[.string sk] (fun ev wq hS he hr => ?_) (fun wq hS => ?_)) ?_
          · have r0 : ev (.tmp 16) = .string sk := hr (16, some 1) (by simp); have hk := he.1; have hf := he.2; clear hr he
            go_simp
          · exact (CK.out wq).mono fun e w' ⟨h1, h2⟩ => ⟨h1, hid (hS.out.trans h2 (fun _ _ h => h))⟩
          refine VFrom.cons (VStep.val _ rfl _ rfl (.string t1) rfl trivial (fun ev wq hS he hr => ?_)) ?_
          · have r0 : ev (.tmp 17) = .string sh := hr (17, some 2) (by simp); have hk := he.1; clear hr he
            have a1 := A1.out wq; go_simp
          refine VFrom.cons (VStep.val _ rfl _ rfl (.pointer (some ⟨N, 1, none⟩)) rfl trivial (fun ev wq hS he hr => ?_)) ?_
          · have r0 : ev (.tmp 1) = .pointer (some ⟨N, 0, none⟩) := hr (1, none) (by simp); have hk := he.1; clear hr he
            go_simp
          refine VFrom.cons (VStep.val _ rfl _ rfl (dotV dn dd) rfl trivial (fun ev wq hS he hr => ?_)) ?_
          · have r0 : ev (.tmp 19) = .pointer (some ⟨N, 1, none⟩) := hr (19, some 4) (by simp); have hk := he.1; clear hr he
            exact exec_loadD rfl r0 (load_dotI (HB.out.kept hS.out (fun h => h)))
          refine VFrom.cons (VStep.call _ rfl _ rfl (.string sd) rfl trivial 79 #[dotV dn dd] (fun ev wq hS he hr => ?_) (fun wq hS => ?_)) ?_
          · have r0 : ev (.tmp 20) = dotV dn dd := hr (20, some 5) (by simp); have hk := he.1; have hf := he.2; clear hr he
            go_simp
          · exact (CD.out wq).mono fun e w' ⟨h1, h2⟩ => ⟨h1, hid (hS.out.trans h2 (fun _ _ h => h))⟩
          refine VFrom.cons (VStep.val _ rfl _ rfl (.string t2) rfl trivial (fun ev wq hS he hr => ?_)) ?_
          · have r0 : ev (.tmp 18) = .string t1 := hr (18, some 3) (by simp); have r1 : ev (.tmp 21) = .string sd := hr (21, some 6) (by simp); have hk := he.1; clear hr he
            have a1 := A2.out wq; go_simp
          refine VFrom.cons (VStep.val _ rfl _ rfl (.string t3) rfl trivial (fun ev wq hS he hr => ?_)) ?_
          · have r0 : ev (.tmp 22) = .string t2 := hr (22, some 7) (by simp); have hk := he.1; clear hr he
            have a1 := A3.out wq; go_simp
          refine VFrom.cons (VStep.val _ rfl _ rfl (.pointer (some ⟨N, 3, none⟩)) rfl trivial (fun ev wq hS he hr => ?_)) ?_
          · have r0 : ev (.tmp 1) = .pointer (some ⟨N, 0, none⟩) := hr (1, none) (by simp); have hk := he.1; clear hr he
            go_simp
          refine VFrom.cons (VStep.val _ rfl _ rfl (.slice pp nP dp) rfl trivial (fun ev wq hS he hr => ?_)) ?_
          · have r0 : ev (.tmp 24) = .pointer (some ⟨N, 3, none⟩) := hr (24, some 9) (by simp); have hk := he.1; clear hr he
            have c0 := (show World.cell? wq ⟨N, 3, none⟩ = some (.slice pp nP dp) from (HB.out.kept hS.out (fun h => h)).cell 3)
            go_simp
          refine VFrom.cons (VStep.call _ rfl _ rfl (.string sp) rfl trivial 80 #[.slice pp nP dp] (fun ev wq hS he hr => ?_) (fun wq hS => ?_)) ?_
          · have r0 : ev (.tmp 25) = .slice pp nP dp := hr (25, some 10) (by simp); have hk := he.1; have hf := he.2; clear hr he
            go_simp
          · exact (CP.out wq hS.out).mono fun e w' ⟨h1, h2⟩ => ⟨h1, hid (hS.out.trans h2 (fun _ _ h => h))⟩
          refine VFrom.cons (VStep.val _ rfl _ rfl (.string t4) rfl trivial (fun ev wq hS he hr => ?_)) ?_
          · have r0 : ev (.tmp 23) = .string t3 := hr (23, some 8) (by simp); have r1 : ev (.tmp 26) = .string sp := hr (26, some 11) (by simp); have hk := he.1; clear hr he
            have a1 := A4.out wq; go_simp
          refine VFrom.cons (VStep.val _ rfl _ rfl (.string t5) rfl trivial (fun ev wq hS he hr => ?_)) ?_
          · have r0 : ev (.tmp 27) = .string t4 := hr (27, some 12) (by simp); have hk := he.1; clear hr he
            have a1 := A5.out wq; go_simp
          refine VFrom.cons (VStep.val _ rfl _ rfl (.string ⟨#[46]⟩) rfl trivial (fun ev wq hS he hr => ?_)) ?_
          · have r0 : ev (.tmp 3) = .string ⟨#[46]⟩ := hr (3, none) (by simp); have hk := he.1; clear hr he
            go_simp
          refine VFrom.cons (VStep.val _ rfl _ rfl (.string t6) rfl trivial (fun ev wq hS he hr => ?_)) ?_
          · have r0 : ev (.tmp 28) = .string t5 := hr (28, some 13) (by simp); have r1 : ev (.tmp 29) = .string ⟨#[46]⟩ := hr (29, some 14) (by simp); have hk := he.1; clear hr he
            have a1 := A6.out wq; go_simp
          refine VFrom.cons (VStep.val _ rfl _ rfl (.string t6) rfl trivial (fun ev wq hS he hr => ?_)) ?_
          · have r0 : ev (.tmp 30) = .string t6 := hr (30, some 15) (by simp); have hk := he.1; clear hr he
            go_simp
          exact VFrom.nil
        case hS => exact hid (Kp.refl Nb w6).drew
        case hend =>
          intro w7 h7
          have K7 := hid (KT.out.trans h7.out (fun _ _ h => h))
          clear h7
          simp only [putAll, List.zip_cons_cons, List.zip_nil_right, List.foldl_cons, List.foldl_nil, Act.put, List.setIfInBounds_toArray, List.set_cons_zero, List.set_cons_succ]
          go_wp2
          go_ret
          exact ⟨by rw [HT6.out]; rfl, K7.out⟩
      | false =>
        have HV2 : Hid (sv = sx) := hid HSV2.out
        obtain rfl := HV2.out
        clear HV2 HSV2
        go_upto_region 8 with fail
        clear c4
        refine region_vals2 [none, none, some 16, none, none, none, none, none, none, none, none, none, none, none, none, some 0, some 1, some 2, some 3, some 4, some 5, some 6, some 7, some 8, some 9, some 10, some 11, some 12, some 13, some 14, some 15] [[(1, none)], [(15, some 0)], [(16, some 1)], [(17, some 2)], [(1, none)], [(19, some 4)], [(20, some 5)], [(18, some 3), (21, some 6)], [(22, some 7)], [(1, none)], [(24, some 9)], [(25, some 10)], [(23, some 8), (26, some 11)], [(27, some 12)], [(3, none)], [(28, some 13), (29, some 14)], [(30, some 15)]] [some 15, some 16, some 17, some 18, some 19, some 20, some 21, some 22, some 23, some 24, some 25, some 26, some 27, some 28, some 29, some 30, some 2] [.pointer (some ⟨N, 0, none⟩), .string sk, .string sh, .string t1, .pointer (some ⟨N, 1, none⟩), dotV dn dd, .string sd, .string t2, .string t3, .pointer (some ⟨N, 3, none⟩), .slice pp nP dp, .string sp, .string t4, .string t5, .string sv, .string t6, .string t6] (fun wq => Hid (Kp Nb w6 wq)) (by kernel_rfl) (by kernel_rfl) (by kernel_rfl) ?hS (VFrom.all (n := 17) (by kernel_rfl) ?hstep) ?hend
        case hstep =>
          refine VFrom.cons (VStep.val _ rfl _ rfl (.pointer (some ⟨N, 0, none⟩)) rfl trivial (fun ev wq hS he hr => ?_)) ?_
          · have r0 : ev (.tmp 1) = .pointer (some ⟨N, 0, none⟩) := hr (1, none) (by simp); have hk := he.1; clear hr he
            go_simp
          refine VFrom.cons (VStep.val _ rfl _ rfl (.string sk) rfl trivial (fun ev wq hS he hr => ?_)) ?_
          · have r0 : ev (.tmp 15) = .pointer (some ⟨N, 0, none⟩) := hr (15, some 0) (by simp); have hk := he.1; clear hr he
            have c0 := (show World.cell? wq ⟨N, 0, none⟩ = some (.string sk) from (HB.out.kept hS.out (fun h => h)).cell 0)
            go_simp
          refine VFrom.cons (VStep.call _ rfl _ rfl (.string sh) rfl trivial 21 #[.string sk] (fun ev wq hS he hr => ?_) (fun wq hS => ?_)) ?_
          · have r0 : ev (.tmp 16) = .string sk := hr (16, some 1) (by simp); have hk := he.1; have hf := he.2; clear hr he
            go_simp
          · exact (CK.out wq).mono fun e w' ⟨h1, h2⟩ => ⟨h1, hid (hS.out.trans h2 (fun _ _ h => h))⟩
          refine VFrom.cons (VStep.val _ rfl _ rfl (.string t1) rfl trivial (fun ev wq hS he hr => ?_)) ?_
          · have r0 : ev (.tmp 17) = .string sh := hr (17, some 2) (by simp); have hk := he.1; clear hr he
            have a1 := A1.out wq; go_simp
          refine VFrom.cons (VStep.val _ rfl _ rfl (.pointer (some ⟨N, 1, none⟩)) rfl trivial (fun ev wq hS he hr => ?_)) ?_
          · have r0 : ev (.tmp 1) = .pointer (some ⟨N, 0, none⟩) := hr (1, none) (by simp); have hk := he.1; clear hr he
            go_simp
          refine VFrom.cons (VStep.val _ rfl _ rfl (dotV dn dd) rfl trivial (fun ev wq hS he hr => ?_)) ?_
          · have r0 : ev (.tmp 19) = .pointer (some ⟨N, 1, none⟩) := hr (19, some 4) (by simp); have hk := he.1; clear hr he
            exact exec_loadD rfl r0 (load_dotI (HB.out.kept hS.out (fun h => h)))
          refine VFrom.cons (VStep.call _ rfl _ rfl (.string sd) rfl trivial 79 #[dotV dn dd] (fun ev wq hS he hr => ?_) (fun wq hS => ?_)) ?_
          · have r0 : ev (.tmp 20) = dotV dn dd := hr (20, some 5) (by simp); have hk := he.1; have hf := he.2; clear hr he
            go_simp
          · exact (CD.out wq).mono fun e w' ⟨h1, h2⟩ => ⟨h1, hid (hS.out.trans h2 (fun _ _ h => h))⟩
          refine VFrom.cons (VStep.val _ rfl _ rfl (.string t2) rfl trivial (fun ev wq hS he hr => ?_)) ?_
          · have r0 : ev (.tmp 18) = .string t1 := hr (18, some 3) (by simp); have r1 : ev (.tmp 21) = .string sd := hr (21, some 6) (by simp); have hk := he.1; clear hr he
            have a1 := A2.out wq; go_simp
          refine VFrom.cons (VStep.val _ rfl _ rfl (.string t3) rfl trivial (fun ev wq hS he hr => ?_)) ?_
          · have r0 : ev (.tmp 22) = .string t2 := hr (22, some 7) (by simp); have hk := he.1; clear hr he
            have a1 := A3.out wq; go_simp
          refine VFrom.cons (VStep.val _ rfl _ rfl (.pointer (some ⟨N, 3, none⟩)) rfl trivial (fun ev wq hS he hr => ?_)) ?_
          · have r0 : ev (.tmp 1) = .pointer (some ⟨N, 0, none⟩) := hr (1, none) (by simp); have hk := he.1; clear hr he
            go_simp
          refine VFrom.cons (VStep.val _ rfl _ rfl (.slice pp nP dp) rfl trivial (fun ev wq hS he hr => ?_)) ?_
          · have r0 : ev (.tmp 24) = .pointer (some ⟨N, 3, none⟩) := hr (24, some 9) (by simp); have hk := he.1; clear hr he
            have c0 := (show World.cell? wq ⟨N, 3, none⟩ = some (.slice pp nP dp) from (HB.out.kept hS.out (fun h => h)).cell 3)
            go_simp
          refine VFrom.cons (VStep.call _ rfl _ rfl (.string sp) rfl trivial 80 #[.slice pp nP dp] (fun ev wq hS he hr => ?_) (fun wq hS => ?_)) ?_
          · have r0 : ev (.tmp 25) = .slice pp nP dp := hr (25, some 10) (by simp); have hk := he.1; have hf := he.2; clear hr he
            go_simp
          · exact (CP.out wq hS.out).mono fun e w' ⟨h1, h2⟩ => ⟨h1, hid (hS.out.trans h2 (fun _ _ h => h))⟩
          refine VFrom.cons (VStep.val _ rfl _ rfl (.string t4) rfl trivial (fun ev wq hS he hr => ?_)) ?_
          · have r0 : ev (.tmp 23) = .string t3 := hr (23, some 8) (by simp); have r1 : ev (.tmp 26) = .string sp := hr (26, some 11) (by simp); have hk := he.1; clear hr he
            have a1 := A4.out wq; go_simp
          refine VFrom.cons (VStep.val _ rfl _ rfl (.string t5) rfl trivial (fun ev wq hS he hr => ?_)) ?_
          · have r0 : ev (.tmp 27) = .string t4 := hr (27, some 12) (by simp); have hk := he.1; clear hr he
            have a1 := A5.out wq; go_simp
          refine VFrom.cons (VStep.val _ rfl _ rfl (.string sv) rfl trivial (fun ev wq hS he hr => ?_)) ?_
          · have r0 : ev (.tmp 3) = .string sv := hr (3, none) (by simp); have hk := he.1; clear hr he
            go_simp
          refine VFrom.cons (VStep.val _ rfl _ rfl (.string t6) rfl trivial (fun ev wq hS he hr => ?_)) ?_
          · have r0 : ev (.tmp 28) = .string t5 := hr (28, some 13) (by simp); have r1 : ev (.tmp 29) = .string sv := hr (29, some 14) (by simp); have hk := he.1; clear hr he
            have a1 := A6.out wq; go_simp
          refine VFrom.cons (VStep.val _ rfl _ rfl (.string t6) rfl trivial (fun ev wq hS he hr => ?_)) ?_
          · have r0 : ev (.tmp 30) = .string t6 := hr (30, some 15) (by simp); have hk := he.1; clear hr he
            go_simp
          exact VFrom.nil
        case hS => exact hid (Kp.refl Nb w6).drew
        case hend =>
          intro w7 h7
          have K7 := hid (KT.out.trans h7.out (fun _ _ h => h))
          clear h7
          simp only [putAll, List.zip_cons_cons, List.zip_nil_right, List.foldl_cons, List.foldl_nil, Act.put, List.setIfInBounds_toArray, List.set_cons_zero, List.set_cons_succ]
          go_wp2
          go_ret
          exact ⟨by rw [HT6.out]; rfl, K7.out⟩
end

end Go.Proofs.YtogoophofgkboaaGreatDoor
