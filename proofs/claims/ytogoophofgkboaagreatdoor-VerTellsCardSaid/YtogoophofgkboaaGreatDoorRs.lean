/-
  Of the texts VeT, VeL, VeW what is used. No condition but what each says.
-/
import Derived.Test.YtogoophofgkboaaGreatDoorRr
import Derived.Test.YtogoophofgkboaaGreatDoorRo
import Derived.Test.YtogoophofgkboaaGreatDoorRd
import Derived.Test.YtogoophofgkboaaGreatDoorRg
namespace Go.Proofs.YtogoophofgkboaaGreatDoor
section
open Go.RowKit
theorem good_okV {q : RunQ} (h : goodR q = true) : RunOk q := by
  have g := goodR_of.1 h
  unfold RunOk I64
  omega
theorem textC_len {c : List RunQ} (hr : rightC c = true) : (textC c).length ≤ 1 + c.length * 78 := by
  unfold textC
  rw [if_pos hr]
  split
  · simp
  · have h := join_len [32] (c.map textR) (fun x hx => by
      obtain ⟨q, hq, rfl⟩ := List.mem_map.1 hx
      exact textR_len q (good_okV (right_good hr q hq)))
    rw [List.length_map] at h
    simp only [List.length_singleton] at h
    omega
theorem exec_convT {P : Program} {ev : Operand → Value} {o : Oper} {T U : TypeId} {x : Operand} {a v : Value} {w w' : World} (ho : o.op = .convert T U x) (hx : ev x = a) (hl : (convert T U a).run P w = .ok v w') : (execOp ev o).run P w = .ok (.value v) w' := by
  unfold execOp
  simp only [ho, hx, Sem.run_bind, Sem.run_pure, Result.andThen_ok, hl]
theorem make_clk1 (w : World) (a b c : Int) : (Instr.buildSlice 25 1 #[(0, .agg #[.int .i64 a, .int .i64 b, .int .i64 c])]).run Tryz.prog w = .ok (.slice (some ⟨w.heap.size, 0, none⟩) 1 1) (w.alloc (.cells #[.int .i64 a, .int .i64 b, .int .i64 c] 38)) := by
  kernel_rfl
theorem cl_new1 (w : World) (r : RunQ) (h : RunOk r) : ClSl (w.alloc (.cells #[.int .i64 r.1, .int .i64 r.2.1, .int .i64 r.2.2] 38)) (.slice (some ⟨w.heap.size, 0, none⟩) 1 1) [r] := by
  have hb := Blk.new w 38 [.int .i64 r.1, .int .i64 r.2.1, .int .i64 r.2.2]
  refine ⟨runAt_ok (fun q hq => by rw [List.mem_singleton.1 hq]; exact h), .inr ⟨w.heap.size, 0, 1, rfl, Nat.le_refl _, by unfold maxLen; omega, fun i hi j u hu => ?_⟩⟩
  have e : i = 0 := by simp at hi; omega
  subst e
  show (World.alloc _ _).cell? ⟨w.heap.size, 0 + 0 * 3 + j, none⟩ = some u
  rw [show 0 + 0 * 3 + j = j by omega, hb.cell]
  exact hu
set_option maxRecDepth 100000 in
set_option maxHeartbeats 8000000 in
theorem itext_any (x : ItQ) (vp vv : Value) (w : World) (h : ItOk w x vp vv) (ht : Tab w) :
    Calls Tryz.prog 35 #[itVq x vp vv] w fun e w' => e = .returned (.string (bs (textI x))) ∧ Kp Nb w w' := by
  obtain ⟨pp, dp, rfl⟩ := h.past.shape
  obtain ⟨pv, dv, rfl⟩ := by_shape h.val
  obtain ⟨N, hN⟩ : ∃ N, w.heap.size = N := ⟨_, rfl⟩
  obtain ⟨W, hW⟩ : ∃ W, W = w.alloc (.cells #[.string (st x.key), .int .i64 x.dn, .int .i64 x.dd, .slice pp x.past.length dp, .bool x.gone, .slice pv x.val.length dv] 28) := ⟨_, rfl⟩
  have HB1 : Hid (Blk W N 28 (itL (st x.key) x.dn x.dd (.slice pp x.past.length dp) x.gone (.slice pv x.val.length dv))) := hid (by rw [hW, ← hN]; exact Blk.new w _ (itL (st x.key) x.dn x.dd (.slice pp x.past.length dp) x.gone (.slice pv x.val.length dv)))
  have K0 : Hid (Kp Nb w W) := hid (by rw [hW]; exact (Kp.refl Nb w).alloc _)
  have HX := hid (h.kept K0.out)
  have CR := hid (iright_any x _ _ W HX.out)
  have HTX : Hid (textI x = if rightI x then textIt x else []) := hid rfl
  obtain ⟨TX, hTX⟩ : ∃ t, textI x = t := ⟨_, rfl⟩
  obtain ⟨R, hR⟩ : ∃ b, rightI x = b := ⟨_, rfl⟩
  rw [hTX] at HTX ⊢
  have HRX := hid hR
  rw [hR] at HTX CR
  have HT := hid (ht.kept K0.out)
  cases R with
  | false =>
    have HT0 : Hid (TX = []) := hid HTX.out
    clear h hTX hR HX HTX HRX ht HT
    obtain ⟨key, dn, dd, past, gn, val⟩ := x
    unfold itVq itV at *
    dsimp only at *
    go_enter Tryz.func35, Tryz.ntmps35
    go_upto_region 1 with fail
    try rw [hN]
    rw [← hW]
    clear hW hN
    go_wp2_with (first | (refine wpList_val (by rfl) _ _ (exec_loadD (x := .tmp 1) rfl (by rfl) (load_item HB1.out)) ?_))
    refine CR.out.mono ?_
    rintro r w1 ⟨rfl, k1⟩
    have K1 := hid (K0.out.trans k1 (fun _ _ h => h))
    clear k1
    go_wp2
    go_ret
    exact ⟨by rw [HT0.out]; rfl, K1.out⟩
  | true =>
    have hf := rightI_facts HRX.out
    have hdg := dot_good HRX.out
    have HTX2 : Hid (TX = textIt x) := hid HTX.out
    have HSV : Hid (valT x = if x.gone then [103, 111, 110, 101] else hexW x.val) := hid rfl
    have HPAST := hid HX.out.past
    have HVAL := hid HX.out.val
    have HKEY := hid HX.out.key
    have HLEN : Hid (x.key.length ≤ 24 ∧ x.past.length ≤ 32 ∧ x.val.length ≤ 64 ∧ 1 ≤ x.key.length) := hid ⟨hf.1, hf.2.2.1, hf.2.2.2.2.1, hf.2.2.2.2.2.1⟩
    have HDR : Hid (0 ≤ x.dn ∧ x.dn ≤ 7 ∧ 1 ≤ x.dd ∧ x.dd ≤ 1099511627776) := hid hf.2.1
    have HPR := hid hf.2.2.2.1
    have HDG := hid hdg
    have LP : Hid ((textC x.past).length ≤ 3000) := hid (by have := textC_len HPR.out; have := HLEN.out; omega)
    have LK : Hid ((hexL x.key).length ≤ 48) := hid (by rw [hexL_len]; have := HLEN.out; omega)
    have LR : Hid ((textR (x.dn, x.dd, x.dd)).length ≤ 77) := hid (textR_len _ (good_okV hdg))
    have LV : Hid ((valT x).length ≤ 128) := hid (by
      rw [HSV.out]
      split
      · decide
      · unfold hexW
        split
        · decide
        · rw [hexL_len]; have := HLEN.out; omega)
    have A1 : Hid (∀ w : World, (Op.stringOp .add (bs (hexL x.key)) ⟨#[32]⟩).run Tryz.prog w = .ok (.string (bs (hexL x.key ++ [32]))) w) := hid (fun w => add_bs w _ [32] (by have := LK.out; omega) (by decide))
    have A2 : Hid (∀ w : World, (Op.stringOp .add (bs (hexL x.key ++ [32])) (bs (textR (x.dn, x.dd, x.dd)))).run Tryz.prog w = .ok (.string (bs (hexL x.key ++ [32] ++ textR (x.dn, x.dd, x.dd)))) w) := hid (fun w => add_bs w _ _ (by simp only [List.length_append, List.length_cons, List.length_nil]; have := LK.out; omega) (by have := LR.out; omega))
    have A3 : Hid (∀ w : World, (Op.stringOp .add (bs (hexL x.key ++ [32] ++ textR (x.dn, x.dd, x.dd))) ⟨#[32, 91]⟩).run Tryz.prog w = .ok (.string (bs (hexL x.key ++ [32] ++ textR (x.dn, x.dd, x.dd) ++ [32, 91]))) w) := hid (fun w => add_bs w _ [32, 91] (by simp only [List.length_append, List.length_cons, List.length_nil]; have := LK.out; have := LR.out; omega) (by decide))
    have A4 : Hid (∀ w : World, (Op.stringOp .add (bs (hexL x.key ++ [32] ++ textR (x.dn, x.dd, x.dd) ++ [32, 91])) (bs (textC x.past))).run Tryz.prog w = .ok (.string (bs (hexL x.key ++ [32] ++ textR (x.dn, x.dd, x.dd) ++ [32, 91] ++ textC x.past))) w) := hid (fun w => add_bs w _ _ (by simp only [List.length_append, List.length_cons, List.length_nil]; have := LK.out; have := LR.out; omega) (by have := LP.out; omega))
    have A5 : Hid (∀ w : World, (Op.stringOp .add (bs (hexL x.key ++ [32] ++ textR (x.dn, x.dd, x.dd) ++ [32, 91] ++ textC x.past)) ⟨#[93, 32]⟩).run Tryz.prog w = .ok (.string (bs (hexL x.key ++ [32] ++ textR (x.dn, x.dd, x.dd) ++ [32, 91] ++ textC x.past ++ [93, 32]))) w) := hid (fun w => add_bs w _ [93, 32] (by simp only [List.length_append, List.length_cons, List.length_nil]; have := LK.out; have := LR.out; have := LP.out; omega) (by decide))
    have A6 : Hid (∀ w : World, (Op.stringOp .add (bs (hexL x.key ++ [32] ++ textR (x.dn, x.dd, x.dd) ++ [32, 91] ++ textC x.past ++ [93, 32])) (bs (valT x))).run Tryz.prog w = .ok (.string (bs TX)) w) := hid (fun w => by
      rw [add_bs w _ _ (by simp only [List.length_append, List.length_cons, List.length_nil]; have := LK.out; have := LR.out; have := LP.out; omega) (by have := LV.out; omega), HTX2.out]
      unfold textIt pastT
      simp only [List.append_assoc, List.cons_append, List.nil_append])
    have CV := hid (fun wx (k : Kp Nb W wx) => dbytes_any _ x.val wx (HVAL.out.kept k (fun _ h => h)) (by have := HLEN.out; omega))
    have CK : Hid (∀ g wx, BySl Nb wx g x.key → Calls Tryz.prog 56 #[g] wx fun e w' => e = .returned (.string (bs (hexL x.key))) ∧ Kp Nb wx w') := hid (fun g wx hg => by
      have h2 := dbytes_any g x.key wx hg (by have := HLEN.out; omega)
      have e : hexW x.key = hexL x.key := by unfold hexW; rw [if_neg (by have := HLEN.out; omega)]
      rwa [e] at h2)
    have CP0 := hid (fun wx (k : Kp Nb W wx) => dtext_any _ x.past wx (HPAST.out.kept k) (by have := HLEN.out; omega) (HT.out.kept k))
    have CD0 : Hid (∀ v wx, ClSl wx v [(x.dn, x.dd, x.dd)] → Kp Nb W wx → Calls Tryz.prog 78 #[v] wx fun e w' => e = .returned (.string (bs (textR (x.dn, x.dd, x.dd)))) ∧ Kp Nb wx w') := hid (fun v wx hv k => by
      have h2 := dtext_any v [(x.dn, x.dd, x.dd)] wx hv (by show 1 ≤ 100000; decide) (HT.out.kept k)
      rwa [(textC_one HDG.out).2] at h2)
    have HCV0 := hid (fun (w : World) => conv_str x.key HKEY.out (by have := HLEN.out; omega) w)
    have HRO : Hid (RunOk (x.dn, x.dd, x.dd)) := hid (good_okV HDG.out)
    obtain ⟨t1, ht1⟩ : ∃ t, bs (hexL x.key ++ [32]) = t := ⟨_, rfl⟩
    obtain ⟨t2, ht2⟩ : ∃ t, bs (hexL x.key ++ [32] ++ textR (x.dn, x.dd, x.dd)) = t := ⟨_, rfl⟩
    obtain ⟨t3, ht3⟩ : ∃ t, bs (hexL x.key ++ [32] ++ textR (x.dn, x.dd, x.dd) ++ [32, 91]) = t := ⟨_, rfl⟩
    obtain ⟨t4, ht4⟩ : ∃ t, bs (hexL x.key ++ [32] ++ textR (x.dn, x.dd, x.dd) ++ [32, 91] ++ textC x.past) = t := ⟨_, rfl⟩
    obtain ⟨t5, ht5⟩ : ∃ t, bs (hexL x.key ++ [32] ++ textR (x.dn, x.dd, x.dd) ++ [32, 91] ++ textC x.past ++ [93, 32]) = t := ⟨_, rfl⟩
    obtain ⟨t6, ht6⟩ : ∃ t, bs TX = t := ⟨_, rfl⟩
    obtain ⟨sh, hsh⟩ : ∃ t, bs (hexL x.key) = t := ⟨_, rfl⟩
    obtain ⟨sd, hsd⟩ : ∃ t, bs (textR (x.dn, x.dd, x.dd)) = t := ⟨_, rfl⟩
    obtain ⟨sp, hsp⟩ : ∃ t, bs (textC x.past) = t := ⟨_, rfl⟩
    obtain ⟨sv, hsv⟩ : ∃ t, bs (valT x) = t := ⟨_, rfl⟩
    have HSVS : Hid (sv = if x.gone then ⟨#[103, 111, 110, 101]⟩ else bs (hexW x.val)) := hid (by rw [← hsv, HSV.out]; split <;> rfl)
    have HT6 := hid ht6
    rw [ht1] at A1 A2
    rw [ht2] at A2 A3
    rw [ht3] at A3 A4
    rw [ht4] at A4 A5
    rw [ht5] at A5 A6
    rw [ht6] at A6
    rw [hsh] at A1 CK
    rw [hsd] at A2 CD0
    rw [hsp] at A4 CP0
    rw [hsv] at A6
    obtain ⟨sw, hsw⟩ : ∃ t, bs (hexW x.val) = t := ⟨_, rfl⟩
    rw [hsw] at CV HSVS
    clear ht1 ht2 ht3 ht4 ht5 ht6 hsh hsd hsp hsv hsw hf hdg LP LK LR LV HPR HX HTX HTX2 HSV h hTX hR ht HRX HPAST HVAL HKEY HDR
    obtain ⟨key, dn, dd, past, gn, val⟩ := x
    unfold itVq itV at *
    dsimp only at *
    obtain ⟨nP, hnP⟩ : ∃ n, past.length = n := ⟨_, rfl⟩
    obtain ⟨nV, hnV⟩ : ∃ n, val.length = n := ⟨_, rfl⟩
    obtain ⟨nK, hnK⟩ : ∃ n, key.length = n := ⟨_, rfl⟩
    obtain ⟨sk, hsk⟩ : ∃ s, st key = s := ⟨_, rfl⟩
    simp only [hnP, hnV, hnK, hsk] at hW HB1 CR CV CP0 HCV0 HLEN ⊢
    have HNK := hid hnK
    have HSK := hid hsk
    clear hnP hnV hnK hsk
    go_enter Tryz.func35, Tryz.ntmps35
    go_upto_region 1 with fail
    try rw [hN]
    rw [← hW]
    clear hW hN
    go_wp2_with (first | (refine wpList_val (by rfl) _ _ (exec_loadD (x := .tmp 1) rfl (by rfl) (load_item HB1.out)) ?_))
    refine CR.out.mono ?_
    rintro r w1 ⟨rfl, k1⟩
    have KW1 := hid k1
    have HB2 := hid (HB1.out.kept k1 (fun h => h))
    have c5 : w1.cell? ⟨N, 5, none⟩ = some (.slice pv nV dv) := HB2.out.cell 5
    clear k1 HB1 CR
    go_wp2_with fail
    refine (CV.out w1 KW1.out).mono ?_
    rintro r w2 ⟨rfl, k2⟩
    have KW2 := hid (KW1.out.trans k2 (fun _ _ h => h))
    have HB3 := hid (HB2.out.kept k2 (fun h => h))
    have c4 : w2.cell? ⟨N, 4, none⟩ = some (.bool gn) := HB3.out.cell 4
    have d1 : w2.cell? ⟨N, 1, none⟩ = some (.int .i64 dn) := HB3.out.cell 1
    have d2 : w2.cell? ⟨N, 2, none⟩ = some (.int .i64 dd) := HB3.out.cell 2
    clear k2 HB2 CV KW1 c5
    obtain ⟨C, hC⟩ : ∃ C, w2.heap.size = C := ⟨_, rfl⟩
    obtain ⟨w6, hw6⟩ : ∃ w6, w6 = w2.alloc (.cells #[.int .i64 dn, .int .i64 dd, .int .i64 dd] 38) := ⟨_, rfl⟩
    have k6 : Kp Nb w2 w6 := by rw [hw6]; exact (Kp.refl Nb w2).alloc _
    have HCL : Hid (ClSl w6 (.slice (some ⟨C, 0, none⟩) 1 1) [(dn, dd, dd)]) := hid (by rw [hw6, ← hC]; exact cl_new1 w2 (dn, dd, dd) HRO.out)
    have HB := hid (HB3.out.kept k6 (fun h => h))
    have K6 := hid (KW2.out.trans k6 (fun _ _ h => h))
    have CP : Hid (∀ wx, Kp Nb w6 wx → _) := hid (fun wx (k : Kp Nb w6 wx) => CP0.out wx (K6.out.trans k (fun _ _ h => h)))
    have CD : Hid (∀ wx, Kp Nb w6 wx → _) := hid (fun wx (k : Kp Nb w6 wx) => CD0.out _ wx (HCL.out.kept k) (K6.out.trans k (fun _ _ h => h)))
    have HCV : Hid (∀ w : World, ∃ (y : Option Addr) (c : Nat) (w' : World), (convert 9 26 (.string sk)).run Tryz.prog w = .ok (.slice y nK c) w' ∧ BySl Nb w' (.slice y nK c) key ∧ Kp Nb w w') := hid (fun w => by
      obtain ⟨y, c, w', h1, h2, h3⟩ := HCV0.out w
      exact ⟨y, c, w', h1, h2.mono (fun _ h => h.elim), h3⟩)
    have KT := hid (K0.out.trans K6.out (fun _ _ h => h))
    clear k6 CP0 CD0 HCV0 HB3 KW2 K6 K0
    cases gn with
    | true =>
      have HV2 : Hid (sv = ⟨#[103, 111, 110, 101]⟩) := hid HSVS.out
      obtain rfl := HV2.out
      clear HV2 HSVS
      go_upto_region 7 with (first | (refine wpList_val (by rfl) _ _ (exec_buildSliceV (qs := #[(0, .agg #[.int .i64 dn, .int .i64 dd, .int .i64 dd])]) rfl (by rfl) (make_clk1 _ dn dd dd)) ?_))
      try rw [hC]
      rw [← hw6]
      clear hw6 hC c4 d1 d2
      refine region_ghost (g0 := (undef : Value)) [none, none, some 16, none, none, none, none, none, none, none, none, none, none, none, none, none, none, none, none, none, none, none, none, none, some 0, some 1, some 2, some 3, some 4, some 5, some 6, some 7, some 8, some 9, some 10, some 11, some 12, some 13, some 14, some 15] [[(1, none)], [(24, some 0)], [(25, some 1)], [(26, some 2)], [(27, some 3)], [(4, none)], [(29, some 5)], [(28, some 4), (30, some 6)], [(31, some 7)], [(1, none)], [(33, some 9)], [(34, some 10)], [(32, some 8), (35, some 11)], [(36, some 12)], [(3, none)], [(37, some 13), (38, some 14)], [(39, some 15)]] [some 24, some 25, some 26, some 27, some 28, some 29, some 30, some 31, some 32, some 33, some 34, some 35, some 36, some 37, some 38, some 39, some 2] (fun g => [.pointer (some ⟨N, 0, none⟩), .string sk, g, .string sh, .string t1, .slice (some ⟨C, 0, none⟩) 1 1, .string sd, .string t2, .string t3, .pointer (some ⟨N, 3, none⟩), .slice pp nP dp, .string sp, .string t4, .string t5, .string ⟨#[103, 111, 110, 101]⟩, .string t6, .string t6]) [2] (fun (bs : List Bool) (g : Value) wq => Hid (Kp Nb w6 wq ∧ (bs.getD 0 false = true → BySl Nb wq g key))) (by kernel_rfl) (by kernel_rfl) (fun g => by kernel_rfl) (by kernel_rfl) ?hS (GFrom.all (n := 17) (by kernel_rfl) ?hstep) ?hend
      case hstep =>
        refine GFrom.cons (GStep.val _ rfl rfl _ rfl (fun g => .pointer (some ⟨N, 0, none⟩)) (fun _ => rfl) (fun _ => trivial) (fun bs g ev wq hS he hr => ?_)) ?_
        · have r0 : ev (.tmp 1) = .pointer (some ⟨N, 0, none⟩) := hr (1, none) (by simp); have hk := he.1; clear hr he
          go_simp
        refine GFrom.cons (GStep.val _ rfl rfl _ rfl (fun g => .string sk) (fun _ => rfl) (fun _ => trivial) (fun bs g ev wq hS he hr => ?_)) ?_
        · have r0 : ev (.tmp 24) = .pointer (some ⟨N, 0, none⟩) := hr (24, some 0) (by simp); have hk := he.1; clear hr he
          have c0 := (show World.cell? wq ⟨N, 0, none⟩ = some (.string sk) from (HB.out.kept hS.out.1 (fun h => h)).cell 0)
          go_simp
        refine GFrom.cons (GStep.make _ rfl _ rfl (fun _ => trivial) (fun Lx g ev wq hL hd hcl hS he hr => ?_)) ?_
        · have r0 : ev (.tmp 25) = .string sk := hr (25, some 1) (by simp); clear hr he
          have e2 : bitsAt [2] (upd Lx 2) = [true] := by simp [bitsAt, upd]
          obtain ⟨y, c, w', hrun, hby, hk⟩ := HCV.out wq
          exact ⟨.slice y nK c, .slice y nK c, w', exec_convT rfl r0 hrun, rfl, old_setV _ hL rfl, by rw [e2]; exact hid ⟨hS.out.1.trans hk (fun _ _ h => h), fun _ => hby⟩⟩
        refine GFrom.cons (GStep.call _ rfl rfl _ rfl (fun g => .string sh) (fun _ => rfl) (fun _ => trivial) 56 (fun g => #[g]) (fun bs g ev wq hS he hr => ?_) (fun L g wq hd hL hS => ?_)) ?_
        · have r0 : ev (.tmp 26) = g := hr (26, some 2) (by simp); have hk := he.1; have hf := he.2; clear hr he
          go_simp
        · have l2 : L 2 = true := hd 2 (by kernel_rfl); have e : bitsAt [2] L = [true] := by simp [bitsAt, l2]
          rw [e] at hS ⊢
          exact (CK.out g wq (hS.out.2 rfl)).mono fun e w' ⟨h1, h2⟩ => ⟨h1, hid ⟨hS.out.1.trans h2 (fun _ _ h => h), fun hb => (hS.out.2 hb).kept h2 (fun _ h => h)⟩⟩
        refine GFrom.cons (GStep.val _ rfl rfl _ rfl (fun g => .string t1) (fun _ => rfl) (fun _ => trivial) (fun bs g ev wq hS he hr => ?_)) ?_
        · have r0 : ev (.tmp 27) = .string sh := hr (27, some 3) (by simp); have hk := he.1; clear hr he
          have a1 := A1.out wq; go_simp
        refine GFrom.cons (GStep.val _ rfl rfl _ rfl (fun g => .slice (some ⟨C, 0, none⟩) 1 1) (fun _ => rfl) (fun _ => trivial) (fun bs g ev wq hS he hr => ?_)) ?_
        · have r0 : ev (.tmp 4) = .slice (some ⟨C, 0, none⟩) 1 1 := hr (4, none) (by simp); have hk := he.1; clear hr he
          go_simp
        refine GFrom.cons (GStep.call _ rfl rfl _ rfl (fun g => .string sd) (fun _ => rfl) (fun _ => trivial) 78 (fun g => #[.slice (some ⟨C, 0, none⟩) 1 1]) (fun bs g ev wq hS he hr => ?_) (fun L g wq hd hL hS => ?_)) ?_
        · have r0 : ev (.tmp 29) = .slice (some ⟨C, 0, none⟩) 1 1 := hr (29, some 5) (by simp); have hk := he.1; have hf := he.2; clear hr he
          go_simp
        · exact (CD.out wq hS.out.1).mono fun e w' ⟨h1, h2⟩ => ⟨h1, hid ⟨hS.out.1.trans h2 (fun _ _ h => h), fun hb => (hS.out.2 hb).kept h2 (fun _ h => h)⟩⟩
        refine GFrom.cons (GStep.val _ rfl rfl _ rfl (fun g => .string t2) (fun _ => rfl) (fun _ => trivial) (fun bs g ev wq hS he hr => ?_)) ?_
        · have r0 : ev (.tmp 28) = .string t1 := hr (28, some 4) (by simp); have r1 : ev (.tmp 30) = .string sd := hr (30, some 6) (by simp); have hk := he.1; clear hr he
          have a1 := A2.out wq; go_simp
        refine GFrom.cons (GStep.val _ rfl rfl _ rfl (fun g => .string t3) (fun _ => rfl) (fun _ => trivial) (fun bs g ev wq hS he hr => ?_)) ?_
        · have r0 : ev (.tmp 31) = .string t2 := hr (31, some 7) (by simp); have hk := he.1; clear hr he
          have a1 := A3.out wq; go_simp
        refine GFrom.cons (GStep.val _ rfl rfl _ rfl (fun g => .pointer (some ⟨N, 3, none⟩)) (fun _ => rfl) (fun _ => trivial) (fun bs g ev wq hS he hr => ?_)) ?_
        · have r0 : ev (.tmp 1) = .pointer (some ⟨N, 0, none⟩) := hr (1, none) (by simp); have hk := he.1; clear hr he
          go_simp
        refine GFrom.cons (GStep.val _ rfl rfl _ rfl (fun g => .slice pp nP dp) (fun _ => rfl) (fun _ => trivial) (fun bs g ev wq hS he hr => ?_)) ?_
        · have r0 : ev (.tmp 33) = .pointer (some ⟨N, 3, none⟩) := hr (33, some 9) (by simp); have hk := he.1; clear hr he
          have c0 := (show World.cell? wq ⟨N, 3, none⟩ = some (.slice pp nP dp) from (HB.out.kept hS.out.1 (fun h => h)).cell 3)
          go_simp
        refine GFrom.cons (GStep.call _ rfl rfl _ rfl (fun g => .string sp) (fun _ => rfl) (fun _ => trivial) 78 (fun g => #[.slice pp nP dp]) (fun bs g ev wq hS he hr => ?_) (fun L g wq hd hL hS => ?_)) ?_
        · have r0 : ev (.tmp 34) = .slice pp nP dp := hr (34, some 10) (by simp); have hk := he.1; have hf := he.2; clear hr he
          go_simp
        · exact (CP.out wq hS.out.1).mono fun e w' ⟨h1, h2⟩ => ⟨h1, hid ⟨hS.out.1.trans h2 (fun _ _ h => h), fun hb => (hS.out.2 hb).kept h2 (fun _ h => h)⟩⟩
        refine GFrom.cons (GStep.val _ rfl rfl _ rfl (fun g => .string t4) (fun _ => rfl) (fun _ => trivial) (fun bs g ev wq hS he hr => ?_)) ?_
        · have r0 : ev (.tmp 32) = .string t3 := hr (32, some 8) (by simp); have r1 : ev (.tmp 35) = .string sp := hr (35, some 11) (by simp); have hk := he.1; clear hr he
          have a1 := A4.out wq; go_simp
        refine GFrom.cons (GStep.val _ rfl rfl _ rfl (fun g => .string t5) (fun _ => rfl) (fun _ => trivial) (fun bs g ev wq hS he hr => ?_)) ?_
        · have r0 : ev (.tmp 36) = .string t4 := hr (36, some 12) (by simp); have hk := he.1; clear hr he
          have a1 := A5.out wq; go_simp
        refine GFrom.cons (GStep.val _ rfl rfl _ rfl (fun g => .string ⟨#[103, 111, 110, 101]⟩) (fun _ => rfl) (fun _ => trivial) (fun bs g ev wq hS he hr => ?_)) ?_
        · have r0 : ev (.tmp 3) = .string ⟨#[103, 111, 110, 101]⟩ := hr (3, none) (by simp); have hk := he.1; clear hr he
          go_simp
        refine GFrom.cons (GStep.val _ rfl rfl _ rfl (fun g => .string t6) (fun _ => rfl) (fun _ => trivial) (fun bs g ev wq hS he hr => ?_)) ?_
        · have r0 : ev (.tmp 37) = .string t5 := hr (37, some 13) (by simp); have r1 : ev (.tmp 38) = .string ⟨#[103, 111, 110, 101]⟩ := hr (38, some 14) (by simp); have hk := he.1; clear hr he
          have a1 := A6.out wq; go_simp
        refine GFrom.cons (GStep.val _ rfl rfl _ rfl (fun g => .string t6) (fun _ => rfl) (fun _ => trivial) (fun bs g ev wq hS he hr => ?_)) ?_
        · have r0 : ev (.tmp 39) = .string t6 := hr (39, some 15) (by simp); have hk := he.1; clear hr he
          go_simp
        exact GFrom.nil
      case hS => exact hid ⟨(Kp.refl Nb w6).drew, (fun e => by cases e)⟩
      case hend =>
        intro g w7 h7
        have K7 := hid (KT.out.trans h7.out.1 (fun _ _ h => h))
        clear h7
        simp only [putAll, List.zip_cons_cons, List.zip_nil_right, List.foldl_cons, List.foldl_nil, Act.put, List.setIfInBounds_toArray, List.set_cons_zero, List.set_cons_succ]
        go_wp2
        go_ret
        exact ⟨by rw [HT6.out]; rfl, K7.out⟩
    | false =>
      have HV2 : Hid (sv = sw) := hid HSVS.out
      obtain rfl := HV2.out
      clear HV2 HSVS
      go_upto_region 7 with (first | (refine wpList_val (by rfl) _ _ (exec_buildSliceV (qs := #[(0, .agg #[.int .i64 dn, .int .i64 dd, .int .i64 dd])]) rfl (by rfl) (make_clk1 _ dn dd dd)) ?_))
      try rw [hC]
      rw [← hw6]
      clear hw6 hC c4 d1 d2
      refine region_ghost (g0 := (undef : Value)) [none, none, some 16, none, none, none, none, none, none, none, none, none, none, none, none, none, none, none, none, none, none, none, none, none, some 0, some 1, some 2, some 3, some 4, some 5, some 6, some 7, some 8, some 9, some 10, some 11, some 12, some 13, some 14, some 15] [[(1, none)], [(24, some 0)], [(25, some 1)], [(26, some 2)], [(27, some 3)], [(4, none)], [(29, some 5)], [(28, some 4), (30, some 6)], [(31, some 7)], [(1, none)], [(33, some 9)], [(34, some 10)], [(32, some 8), (35, some 11)], [(36, some 12)], [(3, none)], [(37, some 13), (38, some 14)], [(39, some 15)]] [some 24, some 25, some 26, some 27, some 28, some 29, some 30, some 31, some 32, some 33, some 34, some 35, some 36, some 37, some 38, some 39, some 2] (fun g => [.pointer (some ⟨N, 0, none⟩), .string sk, g, .string sh, .string t1, .slice (some ⟨C, 0, none⟩) 1 1, .string sd, .string t2, .string t3, .pointer (some ⟨N, 3, none⟩), .slice pp nP dp, .string sp, .string t4, .string t5, .string sv, .string t6, .string t6]) [2] (fun (bs : List Bool) (g : Value) wq => Hid (Kp Nb w6 wq ∧ (bs.getD 0 false = true → BySl Nb wq g key))) (by kernel_rfl) (by kernel_rfl) (fun g => by kernel_rfl) (by kernel_rfl) ?hS (GFrom.all (n := 17) (by kernel_rfl) ?hstep) ?hend
      case hstep =>
        refine GFrom.cons (GStep.val _ rfl rfl _ rfl (fun g => .pointer (some ⟨N, 0, none⟩)) (fun _ => rfl) (fun _ => trivial) (fun bs g ev wq hS he hr => ?_)) ?_
        · have r0 : ev (.tmp 1) = .pointer (some ⟨N, 0, none⟩) := hr (1, none) (by simp); have hk := he.1; clear hr he
          go_simp
        refine GFrom.cons (GStep.val _ rfl rfl _ rfl (fun g => .string sk) (fun _ => rfl) (fun _ => trivial) (fun bs g ev wq hS he hr => ?_)) ?_
        · have r0 : ev (.tmp 24) = .pointer (some ⟨N, 0, none⟩) := hr (24, some 0) (by simp); have hk := he.1; clear hr he
          have c0 := (show World.cell? wq ⟨N, 0, none⟩ = some (.string sk) from (HB.out.kept hS.out.1 (fun h => h)).cell 0)
          go_simp
        refine GFrom.cons (GStep.make _ rfl _ rfl (fun _ => trivial) (fun Lx g ev wq hL hd hcl hS he hr => ?_)) ?_
        · have r0 : ev (.tmp 25) = .string sk := hr (25, some 1) (by simp); clear hr he
          have e2 : bitsAt [2] (upd Lx 2) = [true] := by simp [bitsAt, upd]
          obtain ⟨y, c, w', hrun, hby, hk⟩ := HCV.out wq
          exact ⟨.slice y nK c, .slice y nK c, w', exec_convT rfl r0 hrun, rfl, old_setV _ hL rfl, by rw [e2]; exact hid ⟨hS.out.1.trans hk (fun _ _ h => h), fun _ => hby⟩⟩
        refine GFrom.cons (GStep.call _ rfl rfl _ rfl (fun g => .string sh) (fun _ => rfl) (fun _ => trivial) 56 (fun g => #[g]) (fun bs g ev wq hS he hr => ?_) (fun L g wq hd hL hS => ?_)) ?_
        · have r0 : ev (.tmp 26) = g := hr (26, some 2) (by simp); have hk := he.1; have hf := he.2; clear hr he
          go_simp
        · have l2 : L 2 = true := hd 2 (by kernel_rfl); have e : bitsAt [2] L = [true] := by simp [bitsAt, l2]
          rw [e] at hS ⊢
          exact (CK.out g wq (hS.out.2 rfl)).mono fun e w' ⟨h1, h2⟩ => ⟨h1, hid ⟨hS.out.1.trans h2 (fun _ _ h => h), fun hb => (hS.out.2 hb).kept h2 (fun _ h => h)⟩⟩
        refine GFrom.cons (GStep.val _ rfl rfl _ rfl (fun g => .string t1) (fun _ => rfl) (fun _ => trivial) (fun bs g ev wq hS he hr => ?_)) ?_
        · have r0 : ev (.tmp 27) = .string sh := hr (27, some 3) (by simp); have hk := he.1; clear hr he
          have a1 := A1.out wq; go_simp
        refine GFrom.cons (GStep.val _ rfl rfl _ rfl (fun g => .slice (some ⟨C, 0, none⟩) 1 1) (fun _ => rfl) (fun _ => trivial) (fun bs g ev wq hS he hr => ?_)) ?_
        · have r0 : ev (.tmp 4) = .slice (some ⟨C, 0, none⟩) 1 1 := hr (4, none) (by simp); have hk := he.1; clear hr he
          go_simp
        refine GFrom.cons (GStep.call _ rfl rfl _ rfl (fun g => .string sd) (fun _ => rfl) (fun _ => trivial) 78 (fun g => #[.slice (some ⟨C, 0, none⟩) 1 1]) (fun bs g ev wq hS he hr => ?_) (fun L g wq hd hL hS => ?_)) ?_
        · have r0 : ev (.tmp 29) = .slice (some ⟨C, 0, none⟩) 1 1 := hr (29, some 5) (by simp); have hk := he.1; have hf := he.2; clear hr he
          go_simp
        · exact (CD.out wq hS.out.1).mono fun e w' ⟨h1, h2⟩ => ⟨h1, hid ⟨hS.out.1.trans h2 (fun _ _ h => h), fun hb => (hS.out.2 hb).kept h2 (fun _ h => h)⟩⟩
        refine GFrom.cons (GStep.val _ rfl rfl _ rfl (fun g => .string t2) (fun _ => rfl) (fun _ => trivial) (fun bs g ev wq hS he hr => ?_)) ?_
        · have r0 : ev (.tmp 28) = .string t1 := hr (28, some 4) (by simp); have r1 : ev (.tmp 30) = .string sd := hr (30, some 6) (by simp); have hk := he.1; clear hr he
          have a1 := A2.out wq; go_simp
        refine GFrom.cons (GStep.val _ rfl rfl _ rfl (fun g => .string t3) (fun _ => rfl) (fun _ => trivial) (fun bs g ev wq hS he hr => ?_)) ?_
        · have r0 : ev (.tmp 31) = .string t2 := hr (31, some 7) (by simp); have hk := he.1; clear hr he
          have a1 := A3.out wq; go_simp
        refine GFrom.cons (GStep.val _ rfl rfl _ rfl (fun g => .pointer (some ⟨N, 3, none⟩)) (fun _ => rfl) (fun _ => trivial) (fun bs g ev wq hS he hr => ?_)) ?_
        · have r0 : ev (.tmp 1) = .pointer (some ⟨N, 0, none⟩) := hr (1, none) (by simp); have hk := he.1; clear hr he
          go_simp
        refine GFrom.cons (GStep.val _ rfl rfl _ rfl (fun g => .slice pp nP dp) (fun _ => rfl) (fun _ => trivial) (fun bs g ev wq hS he hr => ?_)) ?_
        · have r0 : ev (.tmp 33) = .pointer (some ⟨N, 3, none⟩) := hr (33, some 9) (by simp); have hk := he.1; clear hr he
          have c0 := (show World.cell? wq ⟨N, 3, none⟩ = some (.slice pp nP dp) from (HB.out.kept hS.out.1 (fun h => h)).cell 3)
          go_simp
        refine GFrom.cons (GStep.call _ rfl rfl _ rfl (fun g => .string sp) (fun _ => rfl) (fun _ => trivial) 78 (fun g => #[.slice pp nP dp]) (fun bs g ev wq hS he hr => ?_) (fun L g wq hd hL hS => ?_)) ?_
        · have r0 : ev (.tmp 34) = .slice pp nP dp := hr (34, some 10) (by simp); have hk := he.1; have hf := he.2; clear hr he
          go_simp
        · exact (CP.out wq hS.out.1).mono fun e w' ⟨h1, h2⟩ => ⟨h1, hid ⟨hS.out.1.trans h2 (fun _ _ h => h), fun hb => (hS.out.2 hb).kept h2 (fun _ h => h)⟩⟩
        refine GFrom.cons (GStep.val _ rfl rfl _ rfl (fun g => .string t4) (fun _ => rfl) (fun _ => trivial) (fun bs g ev wq hS he hr => ?_)) ?_
        · have r0 : ev (.tmp 32) = .string t3 := hr (32, some 8) (by simp); have r1 : ev (.tmp 35) = .string sp := hr (35, some 11) (by simp); have hk := he.1; clear hr he
          have a1 := A4.out wq; go_simp
        refine GFrom.cons (GStep.val _ rfl rfl _ rfl (fun g => .string t5) (fun _ => rfl) (fun _ => trivial) (fun bs g ev wq hS he hr => ?_)) ?_
        · have r0 : ev (.tmp 36) = .string t4 := hr (36, some 12) (by simp); have hk := he.1; clear hr he
          have a1 := A5.out wq; go_simp
        refine GFrom.cons (GStep.val _ rfl rfl _ rfl (fun g => .string sv) (fun _ => rfl) (fun _ => trivial) (fun bs g ev wq hS he hr => ?_)) ?_
        · have r0 : ev (.tmp 3) = .string sv := hr (3, none) (by simp); have hk := he.1; clear hr he
          go_simp
        refine GFrom.cons (GStep.val _ rfl rfl _ rfl (fun g => .string t6) (fun _ => rfl) (fun _ => trivial) (fun bs g ev wq hS he hr => ?_)) ?_
        · have r0 : ev (.tmp 37) = .string t5 := hr (37, some 13) (by simp); have r1 : ev (.tmp 38) = .string sv := hr (38, some 14) (by simp); have hk := he.1; clear hr he
          have a1 := A6.out wq; go_simp
        refine GFrom.cons (GStep.val _ rfl rfl _ rfl (fun g => .string t6) (fun _ => rfl) (fun _ => trivial) (fun bs g ev wq hS he hr => ?_)) ?_
        · have r0 : ev (.tmp 39) = .string t6 := hr (39, some 15) (by simp); have hk := he.1; clear hr he
          go_simp
        exact GFrom.nil
      case hS => exact hid ⟨(Kp.refl Nb w6).drew, (fun e => by cases e)⟩
      case hend =>
        intro g w7 h7
        have K7 := hid (KT.out.trans h7.out.1 (fun _ _ h => h))
        clear h7
        simp only [putAll, List.zip_cons_cons, List.zip_nil_right, List.foldl_cons, List.foldl_nil, Act.put, List.setIfInBounds_toArray, List.set_cons_zero, List.set_cons_succ]
        go_wp2
        go_ret
        exact ⟨by rw [HT6.out]; rfl, K7.out⟩
end
section
open Go.RowKit
theorem ItOk.besideI {w w' : World} {X t : Nat} {x : ItQ} {vp vv : Value} {ks : ByteArray} {dn dd : Int} {y y' : Option Addr} {n d n' d' : Nat} {g : Bool} (h : ItOk w x vp vv) (hx : Blk w X t [.string ks, .int .i64 dn, .int .i64 dd, .slice y n d, .bool g, .slice y' n' d']) (k : Kp (Jb X) w w') : ItOk w' x vp vv := ⟨h.key, h.dn, h.dd, cl_beside h.past hx k, by_besideI h.val hx k⟩
theorem kp_setsN {w w' : World} {N : Nat} {vs : List Value} (k : Kp (Jb N) w w') : Kp (Jb N) w (w'.setCells N 0 vs) := Kp.setCells (S := Jb N) (B := N) (fun _ => show N = N from rfl) _ 0 _ k
end
section
open Go.RowKit
/-- What four words are, as far as they can be an item. -/
def parsedI (k d p v : List UInt8) : ItQ × Bool :=
  match readB k 24, parT d, parT p with
  | some key, some [r], some past => if v = [103, 111, 110, 101] then (⟨key, r.1, r.2.1, past, true, []⟩, true) else (⟨key, r.1, r.2.1, past, false, (readB v 64).getD []⟩, (readB v 64).isSome)
  | _, _, _ => (itZ, false)
theorem build_i3 (w : World) (s : ByteArray) (n f : Int) (y : Option Addr) (m c : Nat) : (Instr.build 28 #[(0, .string s), (1, .agg #[.int .i64 n, .int .i64 f]), (2, .slice y m c)]).run Tryz.prog w = .ok (itV s n f (.slice y m c) false (.slice none 0 0)) w := by
  kernel_rfl
theorem store_i1 {w : World} {N : Nat} {s : ByteArray} {n f : Int} {y : Option Addr} {m c : Nat} (h : Blk w N 28 (itL ⟨#[]⟩ 0 0 (.slice none 0 0) false (.slice none 0 0))) : (Instr.storeAt 28 (.pointer (some ⟨N, 0, none⟩)) (itV s n f (.slice y m c) false (.slice none 0 0))).run Tryz.prog w = .ok () (w.setCells N 0 (itL s n f (.slice y m c) false (.slice none 0 0))) :=
  run_storeAt_mid w N 0 28 (itL s n f (.slice y m c) false (.slice none 0 0)).toArray (item_there h rfl) (item_infoA _ _ _ _ _ _) (item_one _ _ _ _ _ _ _ _ _ _)
theorem readB_bytes {s : List UInt8} {m : Nat} {zs : List Int} (h : readB s m = some zs) : IsBytes zs := by
  unfold readB at h
  split at h
  · injection h with h; rw [← h]; exact isb_nil
  · split at h
    · cases h
    · exact (hex_unh _ _ h).1
set_option maxRecDepth 100000 in
set_option maxHeartbeats 8000000 in
theorem iparsed_any (k d p v : List UInt8) (w : World) (hk : k.length ≤ 1000) (hd : d.length ≤ 1000) (hp : p.length ≤ 1000) (hv : v.length ≤ 1000) (hm : Mx w) (he : Ev w) (ht : Tab w) :
    Calls Tryz.prog 74 #[.string (bs k), .string (bs d), .string (bs p), .string (bs v)] w fun e w' => ∃ vp vv, e = .returned (.tuple #[itVq (parsedI k d p v).1 vp vv, .bool (parsedI k d p v).2]) ∧ ItOk w' (parsedI k d p v).1 vp vv ∧ Kp Nb w w' := by
  obtain ⟨N, hN⟩ : ∃ N, w.heap.size = N := ⟨_, rfl⟩
  obtain ⟨W, hW⟩ : ∃ W, W = w.alloc (.cells #[.string ⟨#[]⟩, .int .i64 0, .int .i64 0, .slice none 0 0, .bool false, .slice none 0 0] 28) := ⟨_, rfl⟩
  have BN0 : Hid (Blk W N 28 (itL ⟨#[]⟩ 0 0 (.slice none 0 0) false (.slice none 0 0))) := hid (by rw [hW, ← hN]; exact Blk.new w _ (itL ⟨#[]⟩ 0 0 (.slice none 0 0) false (.slice none 0 0)))
  have K0 : Hid (Kp Nb w W) := hid (by rw [hW]; exact (Kp.refl Nb w).alloc _)
  have HNW := hid hN
  have HM := hid (show Mx W ∧ Ev W ∧ Tab W from ⟨hm.kept K0.out, he.kept K0.out, ht.kept K0.out⟩)
  have HLN := hid (show k.length ≤ 1000 ∧ d.length ≤ 1000 ∧ p.length ≤ 1000 ∧ v.length ≤ 1000 from ⟨hk, hd, hp, hv⟩)
  have C1 := hid (rbytes4_any k 24 W hk (by omega))
  have C2 := hid (fun wx (q : Kp Nb W wx) => dparse_any d wx HLN.out.2.1 (HM.out.1.kept q) (HM.out.2.1.kept q) (HM.out.2.2.kept q))
  have C3 := hid (fun wx (q : Kp Nb W wx) => dparse_any p wx HLN.out.2.2.1 (HM.out.1.kept q) (HM.out.2.1.kept q) (HM.out.2.2.kept q))
  have C4 := hid (fun wx => rbytes4_any v 64 wx HLN.out.2.2.2 (by omega))
  have HE : Hid (((bs v).toList == [103, 111, 110, 101]) = decide (v = [103, 111, 110, 101])) := hid (by
    have e : (bs v).toList = v := ByteArray.toList_mk _
    rw [e, Bool.eq_iff_iff, beq_iff_eq, decide_eq_true_eq])
  have HPR : Hid (parsedI k d p v = match readB k 24, parT d, parT p with
    | some key, some [r], some past => if v = [103, 111, 110, 101] then (⟨key, r.1, r.2.1, past, true, []⟩, true) else (⟨key, r.1, r.2.1, past, false, (readB v 64).getD []⟩, (readB v 64).isSome)
    | _, _, _ => (itZ, false)) := hid rfl
  obtain ⟨PR, hPR⟩ : ∃ x, parsedI k d p v = x := ⟨_, rfl⟩
  rw [hPR] at HPR ⊢
  have HBK := hid (fun zs (h : readB k 24 = some zs) => readB_bytes h)
  obtain ⟨rk, hrk⟩ : ∃ x, readB k 24 = x := ⟨_, rfl⟩
  obtain ⟨rd, hrd⟩ : ∃ x, parT d = x := ⟨_, rfl⟩
  obtain ⟨rp, hrp⟩ : ∃ x, parT p = x := ⟨_, rfl⟩
  obtain ⟨rv, hrv⟩ : ∃ x, readB v 64 = x := ⟨_, rfl⟩
  have HBV := hid (fun zs (h : rv = some zs) => readB_bytes (hrv.trans h))
  obtain ⟨gv, hgv⟩ : ∃ x, decide (v = [103, 111, 110, 101]) = x := ⟨_, rfl⟩
  have HGV := hid (show (v = [103, 111, 110, 101]) ↔ gv = true by rw [← hgv, decide_eq_true_eq])
  rw [hrk] at HPR C1 HBK
  rw [hrd] at HPR C2
  rw [hrp] at HPR C3
  rw [hrv] at HPR C4
  rw [hgv] at HE
  obtain ⟨sv, hsv⟩ : ∃ t, bs v = t := ⟨_, rfl⟩
  rw [hsv] at HE C4 ⊢
  obtain ⟨sk1, hsk1⟩ : ∃ t, bs k = t := ⟨_, rfl⟩
  rw [hsk1] at C1 ⊢
  obtain ⟨sd1, hsd1⟩ : ∃ t, bs d = t := ⟨_, rfl⟩
  rw [hsd1] at C2 ⊢
  obtain ⟨sp1, hsp1⟩ : ∃ t, bs p = t := ⟨_, rfl⟩
  rw [hsp1] at C3 ⊢
  clear hPR hrk hrd hrp hrv hgv hsv hsk1 hsd1 hsp1 hm he ht hk hd hp hv
  go_enter Tryz.func74, Tryz.ntmps74
  go_upto_region 1 with fail
  try rw [hN]
  rw [← hW]
  clear hW hN
  go_wp2_with fail
  refine C1.out.mono ?_
  rintro e w1 ⟨v1, rfl, hb1, -, k1⟩
  have HB1 := hid hb1
  have KW1 := hid k1
  clear hb1 k1 C1
  go_wp2_with fail
  refine (C2.out w1 KW1.out).mono ?_
  rintro e w2 ⟨v2, rfl, hc2, k2⟩
  have HV2 := hid hc2
  have HB2 := hid (HB1.out.kept k2 (fun _ h => h))
  have KW2 := hid (KW1.out.trans k2 (fun _ _ h => h))
  clear hc2 k2 C2 HB1 KW1
  go_wp2_with fail
  refine (C3.out w2 KW2.out).mono ?_
  rintro e w3 ⟨v3, rfl, hc3, k3⟩
  have HV3 := hid hc3
  have HB3 := hid (HB2.out.kept k3 (fun _ h => h))
  have HO3 := hid (HV2.out.kept k3)
  have KW3 := hid (KW2.out.trans k3 (fun _ _ h => h))
  have K3 := hid (K0.out.trans KW3.out (fun _ _ h => h))
  have BN3 := hid (BN0.out.kept KW3.out (fun h => h))
  clear hc3 k3 C3 HB2 KW2 HV2 BN0 K0
  obtain ⟨y2, c2, e2⟩ := HO3.out.shape
  subst e2
  cases rk with
  | none =>
    simp only [Option.isSome_none]
    have TH := hid (item_there (ks := ⟨#[]⟩) (dn := 0) (dd := 0) (vp := .slice none 0 0) (vv := .slice none 0 0) (g := false) BN3.out rfl)
    have HW := hid (row_set (vs := itL ⟨#[]⟩ 0 0 (.slice none 0 0) false (.slice none 0 0)) (cs := itL ⟨#[]⟩ 0 0 (.slice none 0 0) false (.slice none 0 0)) BN3.out rfl)
    have HKW : Hid (Kp Nb w (w3.setCells N 0 (itL ⟨#[]⟩ 0 0 (.slice none 0 0) false (.slice none 0 0)))) := hid (K3.out.trans (kp_setsN (Kp.refl _ w3)) (fun i hi h => by have h' : i = N := h; have := HNW.out; omega))
    have HPF : Hid (PR = (itZ, false)) := hid (HPR.out)
    go_wp2_with (first
      | (refine wpList_store_mid (by rfl) 28 (.tmp 8) (.tmp 47) (by rfl) N 0 (itL ⟨#[]⟩ 0 0 (.slice none 0 0) false (.slice none 0 0)).toArray (by rfl) (by rfl) TH.out item_info (item_one _ _ _ _ _ _ _ _ _ _) ?_))
    refine bodyPost_ret (results_ctD rfl _ N (by rfl) _ (.bool false) (by rfl) (row_loadVar Tryz.underlying28 rfl (item_infoL _ _ _ _ _ _) HW.out 0 (fun j _ => by rw [Nat.zero_add]))) rfl ?_
    rw [HPF.out]
    exact ⟨.slice none 0 0, .slice none 0 0, rfl, itz_ok _, HKW.out⟩
  | some key =>
    cases rd with
    | none =>
      simp only [Option.isSome_none, Option.isSome_some]
      have TH := hid (item_there (ks := ⟨#[]⟩) (dn := 0) (dd := 0) (vp := .slice none 0 0) (vv := .slice none 0 0) (g := false) BN3.out rfl)
      have HW := hid (row_set (vs := itL ⟨#[]⟩ 0 0 (.slice none 0 0) false (.slice none 0 0)) (cs := itL ⟨#[]⟩ 0 0 (.slice none 0 0) false (.slice none 0 0)) BN3.out rfl)
      have HKW : Hid (Kp Nb w (w3.setCells N 0 (itL ⟨#[]⟩ 0 0 (.slice none 0 0) false (.slice none 0 0)))) := hid (K3.out.trans (kp_setsN (Kp.refl _ w3)) (fun i hi h => by have h' : i = N := h; have := HNW.out; omega))
      have HPF : Hid (PR = (itZ, false)) := hid (HPR.out)
      go_wp2_with (first
        | (refine wpList_store_mid (by rfl) 28 (.tmp 8) (.tmp 47) (by rfl) N 0 (itL ⟨#[]⟩ 0 0 (.slice none 0 0) false (.slice none 0 0)).toArray (by rfl) (by rfl) TH.out item_info (item_one _ _ _ _ _ _ _ _ _ _) ?_))
      refine bodyPost_ret (results_ctD rfl _ N (by rfl) _ (.bool false) (by rfl) (row_loadVar Tryz.underlying28 rfl (item_infoL _ _ _ _ _ _) HW.out 0 (fun j _ => by rw [Nat.zero_add]))) rfl ?_
      rw [HPF.out]
      exact ⟨.slice none 0 0, .slice none 0 0, rfl, itz_ok _, HKW.out⟩
    | some dc =>
      cases rp with
      | none =>
        simp only [Option.isSome_none, Option.isSome_some]
        have TH := hid (item_there (ks := ⟨#[]⟩) (dn := 0) (dd := 0) (vp := .slice none 0 0) (vv := .slice none 0 0) (g := false) BN3.out rfl)
        have HW := hid (row_set (vs := itL ⟨#[]⟩ 0 0 (.slice none 0 0) false (.slice none 0 0)) (cs := itL ⟨#[]⟩ 0 0 (.slice none 0 0) false (.slice none 0 0)) BN3.out rfl)
        have HKW : Hid (Kp Nb w (w3.setCells N 0 (itL ⟨#[]⟩ 0 0 (.slice none 0 0) false (.slice none 0 0)))) := hid (K3.out.trans (kp_setsN (Kp.refl _ w3)) (fun i hi h => by have h' : i = N := h; have := HNW.out; omega))
        have HPF : Hid (PR = (itZ, false)) := hid (by rw [HPR.out]; match dc with | [] => rfl | [_] => rfl | _ :: _ :: _ => rfl)
        go_wp2_with (first
          | (refine wpList_store_mid (by rfl) 28 (.tmp 8) (.tmp 47) (by rfl) N 0 (itL ⟨#[]⟩ 0 0 (.slice none 0 0) false (.slice none 0 0)).toArray (by rfl) (by rfl) TH.out item_info (item_one _ _ _ _ _ _ _ _ _ _) ?_))
        refine bodyPost_ret (results_ctD rfl _ N (by rfl) _ (.bool false) (by rfl) (row_loadVar Tryz.underlying28 rfl (item_infoL _ _ _ _ _ _) HW.out 0 (fun j _ => by rw [Nat.zero_add]))) rfl ?_
        rw [HPF.out]
        exact ⟨.slice none 0 0, .slice none 0 0, rfl, itz_ok _, HKW.out⟩
      | some past =>
        simp only [Option.getD_some, Option.isSome_some] at HB3 HV3 HO3 ⊢
        by_cases hone : dc.length = 1
        · obtain ⟨r, rfl⟩ : ∃ r, dc = [r] := List.length_eq_one_iff.1 hone
          obtain ⟨n, f, tt⟩ := r
          have HPS : Hid (PR = if gv = true then (⟨key, n, f, past, true, []⟩, true) else (⟨key, n, f, past, false, rv.getD []⟩, rv.isSome)) := hid (by
            rw [HPR.out]
            show (if v = [103, 111, 110, 101] then _ else _) = _
            simp only [HGV.out])
          clear hone HPR
          have HRO := hid (HO3.out.ok (n, f, tt) (by simp))
          obtain ⟨y1, c1, e1⟩ := by_shape HB3.out
          subst e1
          obtain ⟨y3, c3, e3⟩ := HV3.out.shape
          subst e3
          have hrows := HO3.out.2
          rcases hrows with ⟨_, e⟩ | ⟨blk, off, cap, e, -, -, hr⟩
          · cases e
          · have e' : y2 = some ⟨blk, off, none⟩ ∧ c2 = cap := by injection e with e1 e2 e3; exact ⟨e1, e3⟩
            obtain ⟨rfl, rfl⟩ := e'
            have hc0 : w3.cell? ⟨blk, off, none⟩ = some (.int .i64 n) := by
              have := hr 0 (by show 0 < 1; decide) 0 _ rfl
              rw [show off + 0 * 3 + 0 = off by omega] at this
              exact this
            have hc1 : w3.cell? ⟨blk, off + 1, none⟩ = some (.int .i64 f) := by
              have := hr 0 (by show 0 < 1; decide) 1 _ rfl
              rw [show off + 0 * 3 + 1 = off + 1 by omega] at this
              exact this
            have HC0 := hid hc0
            have HC1 := hid hc1
            have HCV0 := hid (fun wx (q : Kp Nb w3 wx) => conv_any (HB3.out.kept q (fun _ h => h)))
            obtain ⟨sk, hsk⟩ : ∃ s, st key = s := ⟨_, rfl⟩
            have HSK := hid hsk
            rw [hsk] at HCV0
            have HKB := hid HB3.out.1
            obtain ⟨n1, hn1⟩ : ∃ m, key.length = m := ⟨_, rfl⟩
            obtain ⟨n3, hn3⟩ : ∃ m, past.length = m := ⟨_, rfl⟩
            simp only [hn1] at HCV0
            simp only [hn3] at HV3
            simp only [hn1, hn3, List.length_singleton]
            have HCV := HCV0
            clear hr e hc0 hc1 hsk hn1 hn3 HB3 HO3 HBK HCV0
            go_upto_region 6 with fail
            refine region_ghost (g0 := (0 : Nat)) [none, none, none, none, none, none, none, none, none, none, none, none, none, none, none, none, some 13, none, none, none, none, none, none, none, none, none, none, none, none, none, none, none, none, none, none, none, none, none, none, none, none, none, none, none, none, none, none, none, some 0, some 1, some 2, some 3, some 4, some 5, some 6, some 7, some 8, some 9, some 10, some 11, some 12, none, none, none, none, none, none, none, none, none, none, none, none] [[(10, none)], [(48, some 0)], [(12, none)], [(50, some 2)], [(51, some 3)], [(52, some 4)], [(12, none)], [(54, some 6)], [(55, some 7)], [(56, some 8)], [(53, some 5), (57, some 9)], [(14, none)], [(49, some 1), (58, some 10), (59, some 11)], [], [(16, some 13), (60, some 12)]] [some 48, some 49, some 50, some 51, some 52, some 53, some 54, some 55, some 56, some 57, some 58, some 59, some 60, some 16, none] (fun g => [.slice y1 n1 c1, .string sk, .slice (some ⟨blk, off, none⟩) 1 c2, .pointer (some ⟨blk, off, none⟩), .pointer (some ⟨blk, off, none⟩), .int .i64 n, .slice (some ⟨blk, off, none⟩) 1 c2, .pointer (some ⟨blk, off, none⟩), .pointer (some ⟨blk, off + 1, none⟩), .int .i64 f, dotV n f, .slice y3 n3 c3, itV sk n f (.slice y3 n3 c3) false (.slice none 0 0), .pointer (some ⟨g, 0, none⟩), undef]) [13, 14] (fun (bs : List Bool) (g : Nat) wq => Hid (Kp Nb w3 wq ∧ (bs.getD 0 false = true → w3.heap.size ≤ g) ∧ (bs.getD 0 false = true → bs.getD 1 false = false → Blk wq g 28 (itL ⟨#[]⟩ 0 0 (.slice none 0 0) false (.slice none 0 0))) ∧ (bs.getD 1 false = true → Blk wq g 28 (itL sk n f (.slice y3 n3 c3) false (.slice none 0 0))))) (by kernel_rfl) (by kernel_rfl) (fun g => by kernel_rfl) (by kernel_rfl) ?hS (GFrom.all (n := 15) (by kernel_rfl) ?hstep) ?hend
            case hstep =>
              refine GFrom.cons (GStep.val _ rfl rfl _ rfl (fun g => .slice y1 n1 c1) (fun _ => rfl) (fun _ => trivial) (fun bs g ev wq hS he hr => ?_)) ?_
              · have r0 : ev (.tmp 10) = .slice y1 n1 c1 := hr (10, none) (by simp); have hk := he.1; clear hr he
                go_simp
              refine GFrom.cons (GStep.val _ rfl rfl _ rfl (fun g => .string sk) (fun _ => rfl) (fun _ => trivial) (fun bs g ev wq hS he hr => ?_)) ?_
              · have r0 : ev (.tmp 48) = .slice y1 n1 c1 := hr (48, some 0) (by simp); have hk := he.1; clear hr he
                exact exec_convT rfl r0 (HCV.out wq hS.out.1)
              refine GFrom.cons (GStep.val _ rfl rfl _ rfl (fun g => .slice (some ⟨blk, off, none⟩) 1 c2) (fun _ => rfl) (fun _ => trivial) (fun bs g ev wq hS he hr => ?_)) ?_
              · have r0 : ev (.tmp 12) = .slice (some ⟨blk, off, none⟩) 1 c2 := hr (12, none) (by simp); have hk := he.1; clear hr he
                go_simp
              refine GFrom.cons (GStep.val _ rfl rfl _ rfl (fun g => .pointer (some ⟨blk, off, none⟩)) (fun _ => rfl) (fun _ => trivial) (fun bs g ev wq hS he hr => ?_)) ?_
              · have r0 : ev (.tmp 50) = .slice (some ⟨blk, off, none⟩) 1 c2 := hr (50, some 2) (by simp); have hk := he.1; clear hr he
                go_simp
              refine GFrom.cons (GStep.val _ rfl rfl _ rfl (fun g => .pointer (some ⟨blk, off, none⟩)) (fun _ => rfl) (fun _ => trivial) (fun bs g ev wq hS he hr => ?_)) ?_
              · have r0 : ev (.tmp 51) = .pointer (some ⟨blk, off, none⟩) := hr (51, some 3) (by simp); have hk := he.1; clear hr he
                go_simp
              refine GFrom.cons (GStep.val _ rfl rfl _ rfl (fun g => .int .i64 n) (fun _ => rfl) (fun _ => trivial) (fun bs g ev wq hS he hr => ?_)) ?_
              · have r0 : ev (.tmp 52) = .pointer (some ⟨blk, off, none⟩) := hr (52, some 4) (by simp); have hk := he.1; clear hr he
                have c0 : wq.cell? ⟨blk, off, none⟩ = some (.int .i64 n) := hS.out.1.cell (HC0.out) (fun h => h)
                go_simp
              refine GFrom.cons (GStep.val _ rfl rfl _ rfl (fun g => .slice (some ⟨blk, off, none⟩) 1 c2) (fun _ => rfl) (fun _ => trivial) (fun bs g ev wq hS he hr => ?_)) ?_
              · have r0 : ev (.tmp 12) = .slice (some ⟨blk, off, none⟩) 1 c2 := hr (12, none) (by simp); have hk := he.1; clear hr he
                go_simp
              refine GFrom.cons (GStep.val _ rfl rfl _ rfl (fun g => .pointer (some ⟨blk, off, none⟩)) (fun _ => rfl) (fun _ => trivial) (fun bs g ev wq hS he hr => ?_)) ?_
              · have r0 : ev (.tmp 54) = .slice (some ⟨blk, off, none⟩) 1 c2 := hr (54, some 6) (by simp); have hk := he.1; clear hr he
                go_simp
              refine GFrom.cons (GStep.val _ rfl rfl _ rfl (fun g => .pointer (some ⟨blk, off + 1, none⟩)) (fun _ => rfl) (fun _ => trivial) (fun bs g ev wq hS he hr => ?_)) ?_
              · have r0 : ev (.tmp 55) = .pointer (some ⟨blk, off, none⟩) := hr (55, some 7) (by simp); have hk := he.1; clear hr he
                go_simp
              refine GFrom.cons (GStep.val _ rfl rfl _ rfl (fun g => .int .i64 f) (fun _ => rfl) (fun _ => trivial) (fun bs g ev wq hS he hr => ?_)) ?_
              · have r0 : ev (.tmp 56) = .pointer (some ⟨blk, off + 1, none⟩) := hr (56, some 8) (by simp); have hk := he.1; clear hr he
                have c0 : wq.cell? ⟨blk, off + 1, none⟩ = some (.int .i64 f) := hS.out.1.cell (HC1.out) (fun h => h)
                go_simp
              refine GFrom.cons (GStep.val _ rfl rfl _ rfl (fun g => dotV n f) (fun _ => rfl) (fun _ => trivial) (fun bs g ev wq hS he hr => ?_)) ?_
              · have r0 : ev (.tmp 53) = .int .i64 n := hr (53, some 5) (by simp); have r1 : ev (.tmp 57) = .int .i64 f := hr (57, some 9) (by simp); have hk := he.1; clear hr he
                go_simp
              refine GFrom.cons (GStep.val _ rfl rfl _ rfl (fun g => .slice y3 n3 c3) (fun _ => rfl) (fun _ => trivial) (fun bs g ev wq hS he hr => ?_)) ?_
              · have r0 : ev (.tmp 14) = .slice y3 n3 c3 := hr (14, none) (by simp); have hk := he.1; clear hr he
                go_simp
              refine GFrom.cons (GStep.val _ rfl rfl _ rfl (fun g => itV sk n f (.slice y3 n3 c3) false (.slice none 0 0)) (fun _ => rfl) (fun _ => trivial) (fun bs g ev wq hS he hr => ?_)) ?_
              · have r0 : ev (.tmp 49) = .string sk := hr (49, some 1) (by simp); have r1 : ev (.tmp 58) = dotV n f := hr (58, some 10) (by simp); have r2 : ev (.tmp 59) = .slice y3 n3 c3 := hr (59, some 11) (by simp); have hk := he.1; clear hr he
                exact exec_build rfl (by simp [r0, r1, r2]) (build_i3 wq _ _ _ _ _ _)
              refine GFrom.cons (GStep.make _ rfl _ rfl (fun _ => trivial) (fun Lx g ev wq hL hd hcl hS he hr => ?_)) ?_
              · clear hr; have hk := he.1
                have l14 : Lx 14 = false := by cases h : Lx 14 with | false => rfl | true => (have := hcl 14 _ rfl h 13 (by kernel_rfl); rw [hL] at this; cases this)
                have e : bitsAt [13, 14] Lx = [false, false] := by simp [bitsAt, hL, l14]
                have e2 : bitsAt [13, 14] (upd Lx 13) = [true, false] := by simp [bitsAt, upd, l14]
                rw [e] at hS
                exact ⟨.pointer (some ⟨wq.heap.size, 0, none⟩), wq.heap.size, wq.alloc (.cells (itL ⟨#[]⟩ 0 0 (.slice none 0 0) false (.slice none 0 0)).toArray 28), by go_simp, rfl, old_setV _ hL rfl, by rw [e2]; exact hid ⟨hS.out.1.trans ((Kp.refl Nb wq).alloc _) (fun _ _ h => h), fun _ => hS.out.1.size, fun _ _ => Blk.new wq _ (itL ⟨#[]⟩ 0 0 (.slice none 0 0) false (.slice none 0 0)), (fun e => by cases e)⟩⟩
              refine GFrom.cons (GStep.storem _ rfl _ rfl (fun _ => rfl) (fun _ => trivial) (fun Lx g ev wq hL hd hcl hS he hr => ?_)) ?_
              · have r0 : ev (.tmp 16) = .pointer (some ⟨g, 0, none⟩) := hr (16, some 13) (by simp); have r1 : ev (.tmp 60) = itV sk n f (.slice y3 n3 c3) false (.slice none 0 0) := hr (60, some 12) (by simp); clear hr he
                have l13 : Lx 13 = true := hd 13 (by kernel_rfl)
                have e : bitsAt [13, 14] Lx = [true, false] := by simp [bitsAt, hL, l13]
                have e2 : bitsAt [13, 14] (upd Lx 14) = [true, true] := by simp [bitsAt, upd, l13]
                rw [e] at hS
                have hb := hS.out.2.2.1 rfl rfl
                exact ⟨_, exec_store rfl r0 r1 (store_i1 hb), by rw [e2]; exact hid ⟨Kp.setCells (fun h => absurd h (by have := hS.out.2.1 rfl; omega)) _ 0 _ hS.out.1, fun _ => hS.out.2.1 rfl, (fun _ e => by cases e), fun _ => row_set hb rfl⟩⟩
              exact GFrom.nil
            case hS => exact hid ⟨(Kp.refl Nb w3).drew, (fun e => by cases e), (fun e => by cases e), (fun e => by cases e)⟩
            case hend =>
              intro X w6 h6
              have BX6 := hid (h6.out.2.2.2 rfl)
              have KW6 := hid (h6.out.1)
              have HXN : Hid (N < X) := hid (by have := h6.out.2.1 rfl; have := BN3.out.lt; omega)
              have K6 := hid (K3.out.trans KW6.out (fun _ _ h => h))
              have BN6 := hid (BN3.out.kept KW6.out (fun h => h))
              have IT6 : Hid (ItOk w6 ⟨key, n, f, past, false, []⟩ (.slice y3 n3 c3) (.slice none 0 0)) := hid ⟨HKB.out, HRO.out.1, HRO.out.2.1, HV3.out.kept KW6.out, ⟨isb_nil, .inl ⟨⟨_, _, rfl⟩, rfl⟩⟩⟩
              have HNX : Hid (w.heap.size ≤ N ∧ N < X) := hid (by have := HNW.out; have := HXN.out; omega)
              clear h6 BN3 K3 HCV HC0 HC1 KW6 HV3
              simp only [putAll, List.zip_cons_cons, List.zip_nil_right, List.foldl_cons, List.foldl_nil, Act.put, List.setIfInBounds_toArray, List.set_cons_zero, List.set_cons_succ]
              cases gv with
              | true =>
                have hgo : (sv.toList == [103, 111, 110, 101]) = true := HE.out
                have HPF : Hid (PR = (⟨key, n, f, past, true, []⟩, true)) := hid HPS.out
                have fz := BX6.out.frozen 4
                have ck : w6.cell? ⟨X, 4, none⟩ = some (.bool false) := BX6.out.cell 4
                obtain ⟨w8, hw8⟩ : ∃ W, W = w6.setCell ⟨X, 4, none⟩ (.bool true) := ⟨_, rfl⟩
                have ks : Kp (Jb X) w6 w8 := by rw [hw8]; exact (Kp.refl (Jb X) w6).set 4 _
                have BX8 : Hid (Blk w8 X 28 (itL sk n f (.slice y3 n3 c3) true (.slice none 0 0))) := hid (by rw [hw8]; exact BX6.out.set 4 _)
                have BN8 := hid (BN6.out.kept ks (fun h => by have h' : N = X := h; have := HXN.out; omega))
                have K8 : Hid (Kp Nb w w8) := hid (K6.out.trans ks (fun i hi h => by have h' : i = X := h; have := HNX.out; omega))
                have IT8 : Hid (ItOk w8 ⟨key, n, f, past, true, []⟩ (.slice y3 n3 c3) (.slice none 0 0)) := hid (by have h := IT6.out.besideI BX6.out ks; exact ⟨h.key, h.dn, h.dd, h.past, h.val⟩)
                clear ks HPS HE
                go_upto_region 9 with fail
                rw [← hw8]
                clear hw8 fz ck BX6 BN6 K6 IT6 hgo
                have TH := hid (item_there (ks := sk) (dn := n) (dd := f) (vp := .slice y3 n3 c3) (vv := .slice none 0 0) (g := true) BN8.out rfl)
                have HW := hid (row_set (vs := itL ⟨#[]⟩ 0 0 (.slice none 0 0) false (.slice none 0 0)) (cs := itL sk n f (.slice y3 n3 c3) true (.slice none 0 0)) BN8.out rfl)
                have HKW : Hid (Kp Nb w (w8.setCells N 0 (itL sk n f (.slice y3 n3 c3) true (.slice none 0 0)))) := hid (K8.out.trans (kp_setsN (Kp.refl _ w8)) (fun i hi h => by have h' : i = N := h; have := HNW.out; omega))
                have ITW := hid (IT8.out.besideI BN8.out (kp_setsN (vs := itL sk n f (.slice y3 n3 c3) true (.slice none 0 0)) (Kp.refl _ w8)))
                go_wp2_with (first
                  | (refine wpList_val (by rfl) _ _ (exec_loadD (x := .tmp 16) rfl (by rfl) (load_item BX8.out)) ?_)
                  | (refine wpList_store_mid (by rfl) 28 (.tmp 8) (.tmp 64) (by rfl) N 0 (itL sk n f (.slice y3 n3 c3) true (.slice none 0 0)).toArray (by rfl) (by rfl) TH.out item_info (item_one _ _ _ _ _ _ _ _ _ _) ?_))
                refine bodyPost_ret (results_ctD rfl _ N (by rfl) _ (.bool true) (by rfl) (row_loadVar Tryz.underlying28 rfl (item_infoL _ _ _ _ _ _) HW.out 0 (fun j _ => by rw [Nat.zero_add]))) rfl ?_
                rw [HPF.out]
                exact ⟨.slice y3 n3 c3, .slice none 0 0, by unfold itVq; dsimp only; rw [HSK.out], ITW.out, HKW.out⟩
              | false =>
                have hgo : (sv.toList == [103, 111, 110, 101]) = false := HE.out
                have HPF : Hid (PR = (⟨key, n, f, past, false, rv.getD []⟩, rv.isSome)) := hid HPS.out
                clear HPS HE
                go_wp2_with fail
                refine (C4.out w6).mono ?_
                rintro e w7 ⟨v4, rfl, hb4, -, k7⟩
                have HB4 := hid hb4
                have BX7 := hid (BX6.out.kept k7 (fun h => h))
                have BN7 := hid (BN6.out.kept k7 (fun h => h))
                have IT7 := hid (IT6.out.kept k7)
                have K7 := hid (K6.out.trans k7 (fun _ _ h => h))
                clear hb4 k7 C4 BX6 BN6 IT6 K6 hgo
                obtain ⟨y4, c4, e4⟩ := by_shape HB4.out
                subst e4
                obtain ⟨rb, hrb⟩ : ∃ b, rv.isSome = b := ⟨_, rfl⟩
                obtain ⟨val, hval⟩ : ∃ b, rv.getD [] = b := ⟨_, rfl⟩
                rw [hrb, hval] at HPF
                rw [hrb]
                rw [hval] at HB4
                simp only [hval]
                obtain ⟨n4, hn4⟩ : ∃ m, val.length = m := ⟨_, rfl⟩
                simp only [hn4] at HB4
                simp only [hn4]
                have fz := BX7.out.frozen 5
                have ck : w7.cell? ⟨X, 5, none⟩ = some (.slice none 0 0) := BX7.out.cell 5
                obtain ⟨w8, hw8⟩ : ∃ W, W = w7.setCell ⟨X, 5, none⟩ (.slice y4 n4 c4) := ⟨_, rfl⟩
                have ks : Kp (Jb X) w7 w8 := by rw [hw8]; exact (Kp.refl (Jb X) w7).set 5 _
                have BX8 : Hid (Blk w8 X 28 (itL sk n f (.slice y3 n3 c3) false (.slice y4 n4 c4))) := hid (by rw [hw8]; exact BX7.out.set 5 _)
                have BN8 := hid (BN7.out.kept ks (fun h => by have h' : N = X := h; have := HXN.out; omega))
                have K8 : Hid (Kp Nb w w8) := hid (K7.out.trans ks (fun i hi h => by have h' : i = X := h; have := HNX.out; omega))
                have IT8 : Hid (ItOk w8 ⟨key, n, f, past, false, val⟩ (.slice y3 n3 c3) (.slice y4 n4 c4)) := hid (by have h := IT7.out.besideI BX7.out ks; exact ⟨h.key, h.dn, h.dd, h.past, by_besideI HB4.out BX7.out ks⟩)
                clear ks hrb hval hn4
                go_upto_region 11 with fail
                rw [← hw8]
                clear hw8 fz ck BX7 BN7 K7 IT7
                have TH := hid (item_there (ks := sk) (dn := n) (dd := f) (vp := .slice y3 n3 c3) (vv := .slice y4 n4 c4) (g := false) BN8.out rfl)
                have HW := hid (row_set (vs := itL ⟨#[]⟩ 0 0 (.slice none 0 0) false (.slice none 0 0)) (cs := itL sk n f (.slice y3 n3 c3) false (.slice y4 n4 c4)) BN8.out rfl)
                have HKW : Hid (Kp Nb w (w8.setCells N 0 (itL sk n f (.slice y3 n3 c3) false (.slice y4 n4 c4)))) := hid (K8.out.trans (kp_setsN (Kp.refl _ w8)) (fun i hi h => by have h' : i = N := h; have := HNW.out; omega))
                have ITW := hid (IT8.out.besideI BN8.out (kp_setsN (vs := itL sk n f (.slice y3 n3 c3) false (.slice y4 n4 c4)) (Kp.refl _ w8)))
                go_wp2_with (first
                  | (refine wpList_val (by rfl) _ _ (exec_loadD (x := .tmp 16) rfl (by rfl) (load_item BX8.out)) ?_)
                  | (refine wpList_store_mid (by rfl) 28 (.tmp 8) (.tmp 71) (by rfl) N 0 (itL sk n f (.slice y3 n3 c3) false (.slice y4 n4 c4)).toArray (by rfl) (by rfl) TH.out item_info (item_one _ _ _ _ _ _ _ _ _ _) ?_))
                refine bodyPost_ret (results_ctD rfl _ N (by rfl) _ (.bool rb) (by rfl) (row_loadVar Tryz.underlying28 rfl (item_infoL _ _ _ _ _ _) HW.out 0 (fun j _ => by rw [Nat.zero_add]))) rfl ?_
                rw [HPF.out]
                exact ⟨.slice y3 n3 c3, .slice y4 n4 c4, by unfold itVq; dsimp only; rw [HSK.out], ITW.out, HKW.out⟩
        · have g1 : ((dc.length : Int) != 1) = true := by rw [bne_iff_ne]; omega
          have HPX : Hid (PR = (itZ, false)) := hid (by
            rw [HPR.out]
            match dc, hone with
            | [], _ => rfl
            | [r], h => exact absurd rfl h
            | _ :: _ :: _, _ => rfl)
          obtain ⟨nd, hnd⟩ : ∃ m, dc.length = m := ⟨_, rfl⟩
          rw [hnd] at g1
          simp only [hnd]
          clear hnd hone
          have TH := hid (item_there (ks := ⟨#[]⟩) (dn := 0) (dd := 0) (vp := .slice none 0 0) (vv := .slice none 0 0) (g := false) BN3.out rfl)
          have HW := hid (row_set (vs := itL ⟨#[]⟩ 0 0 (.slice none 0 0) false (.slice none 0 0)) (cs := itL ⟨#[]⟩ 0 0 (.slice none 0 0) false (.slice none 0 0)) BN3.out rfl)
          have HKW : Hid (Kp Nb w (w3.setCells N 0 (itL ⟨#[]⟩ 0 0 (.slice none 0 0) false (.slice none 0 0)))) := hid (K3.out.trans (kp_setsN (Kp.refl _ w3)) (fun i hi h => by have h' : i = N := h; have := HNW.out; omega))
          have HPF : Hid (PR = (itZ, false)) := hid (HPX.out)
          go_wp2_with (first
            | (refine wpList_store_mid (by rfl) 28 (.tmp 8) (.tmp 47) (by rfl) N 0 (itL ⟨#[]⟩ 0 0 (.slice none 0 0) false (.slice none 0 0)).toArray (by rfl) (by rfl) TH.out item_info (item_one _ _ _ _ _ _ _ _ _ _) ?_))
          refine bodyPost_ret (results_ctD rfl _ N (by rfl) _ (.bool false) (by rfl) (row_loadVar Tryz.underlying28 rfl (item_infoL _ _ _ _ _ _) HW.out 0 (fun j _ => by rw [Nat.zero_add]))) rfl ?_
          rw [HPF.out]
          exact ⟨.slice none 0 0, .slice none 0 0, rfl, itz_ok _, HKW.out⟩
end

end Go.Proofs.YtogoophofgkboaaGreatDoor
