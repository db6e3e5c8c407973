/-
  Of the texts VeE, VeF what is used. No condition but what each says.
-/
import Derived.Test.YtogoophofgkboaaGreatDoorRl
import Derived.Test.YtogoophofgkboaaGreatDoorRf
import Derived.Test.YtogoophofgkboaaGreatDoorRc
namespace Go.Proofs.YtogoophofgkboaaGreatDoor
section
open Go.RowKit
def bytesX (x : ItQ) : List Int := if rightI x then bytesI x else []
theorem bytesX_len (x : ItQ) : (bytesX x).length ≤ 2000 := by
  unfold bytesX
  split
  · rename_i h
    obtain ⟨h1, h2, h3, h4, h5, -, -⟩ := rightI_facts h
    have l1 := numBytes_length x.dn (by omega)
    have l2 := numBytes_length x.dd (by omega)
    have l3 := numBytes_length (x.key.length : Int) (by omega)
    have l4 := numBytes_length (x.val.length : Int) (by omega)
    have l5 := numBytes_length (x.past.length : Int) (by omega)
    have l6 := runsB_len x.past (right_good h4)
    unfold bytesI textB bytesC
    cases x.gone <;> simp only [List.length_append, if_true, if_false, List.length_singleton, Bool.false_eq_true] <;> omega
  · simp
set_option maxRecDepth 100000 in
set_option maxHeartbeats 4000000 in
theorem ibytes_any (x : ItQ) (vp vv : Value) (w : World) (h : ItOk w x vp vv) (hlo : ∀ g, vp.ownBlock = some g → g < w.heap.size) :
    Calls Tryz.prog 30 #[itVq x vp vv] w fun e w' => ∃ r, e = .returned r ∧ BySl Nb w' r (bytesX x) ∧ OwnV w r w' ∧ Kp Nb w w' := by
  obtain ⟨pp, dp, rfl⟩ := h.past.shape
  obtain ⟨pv, dv, rfl⟩ := by_shape h.val
  obtain ⟨N, hN⟩ : ∃ N, w.heap.size = N := ⟨_, rfl⟩
  obtain ⟨W0, hW0⟩ : ∃ W, W = w.alloc (.cells #[.string (st x.key), .int .i64 x.dn, .int .i64 x.dd, .slice pp x.past.length dp, .bool x.gone, .slice pv x.val.length dv] 28) := ⟨_, rfl⟩
  have hb0 : Blk W0 N 28 (itL (st x.key) x.dn x.dd (.slice pp x.past.length dp) x.gone (.slice pv x.val.length dv)) := by rw [hW0, ← hN]; exact Blk.new w _ (itL (st x.key) x.dn x.dd (.slice pp x.past.length dp) x.gone (.slice pv x.val.length dv))
  have hs0 : W0.heap.size = N + 1 := by rw [hW0, ← hN]; simp only [World.size_alloc]
  have k0 : Kp Nb w W0 := by rw [hW0]; exact (Kp.refl Nb w).alloc _
  obtain ⟨W, hW⟩ : ∃ W, W = W0.alloc (.cells #[.slice none 0 0] 45) := ⟨_, rfl⟩
  have HB : Hid (Blk W N 28 (itL (st x.key) x.dn x.dd (.slice pp x.past.length dp) x.gone (.slice pv x.val.length dv))) := hid (by rw [hW]; exact hb0.alloc _)
  have HP : Hid (PenAt W (N + 1) (.slice none 0 0) []) := hid (by rw [hW, ← hs0]; exact pen_new W0)
  have K0 : Hid (Kp Nb w W) := hid (by rw [hW]; exact k0.alloc _)
  have CP := hid (iput_at (N + 1) (.slice none 0 0) [] x _ _ W (h.kept K0.out) HP.out (by simp) (fun g hg => ⟨by have := hlo g hg; omega, by simp [Value.ownBlock], by have := hlo g hg; have := K0.out.size; omega⟩)
    (((by_old h.val).kept K0.out (fun _ h => h.elim)).mono (fun i hi => by
      rcases hi with rfl | hi
      · omega
      · simp [Value.ownBlock] at hi)))
  have HNW := hid hN
  rw [hW0] at hW
  unfold itVq itV at *
  have HBX : Hid (bytesX x = if rightI x then bytesI x else []) := hid rfl
  have HLX := hid (bytesX_len x)
  obtain ⟨BX, hBX⟩ : ∃ b, bytesX x = b := ⟨_, rfl⟩
  rw [hBX] at HBX HLX ⊢
  rw [List.nil_append, ← HBX.out] at CP
  obtain ⟨key, dn, dd, past, gn, val⟩ := x
  dsimp only at *
  obtain ⟨R, hR⟩ : ∃ b, rightI ⟨key, dn, dd, past, gn, val⟩ = b := ⟨_, rfl⟩
  rw [hR] at CP
  obtain ⟨nP, hnP⟩ : ∃ n, past.length = n := ⟨_, rfl⟩
  obtain ⟨nV, hnV⟩ : ∃ n, val.length = n := ⟨_, rfl⟩
  obtain ⟨sk, hsk⟩ : ∃ s, st key = s := ⟨_, rfl⟩
  simp only [hnP, hnV, hsk] at hW HB CP ⊢
  clear h hlo hN hb0 hs0 k0 hW0 hBX HBX hR hnP hnV hsk
  go_enter Tryz.func30, Tryz.ntmps30
  go_upto_region 2 with fail
  rw [HNW.out]
  try rw [HNW.out] at hW
  have hsz : (w.alloc (.cells #[.string sk, .int .i64 dn, .int .i64 dd, .slice pp nP dp, .bool gn, .slice pv nV dv] 28)).heap.size = N + 1 := by simp only [World.size_alloc]; rw [HNW.out]
  try simp only [hsz]
  rw [← hW]
  clear hW hsz
  go_wp2_with (first
    | (refine wpList_load_mid (by rfl) 28 (.tmp 1) (by rfl) N 0 (by rfl) (itL sk dn dd (.slice pp nP dp) gn (.slice pv nV dv)) _ (range_ofR HB.out) under_item.choose_spec rfl item_info ?_))
  refine CP.out.mono ?_
  rintro r w2 ⟨rfl, v2, p2, t2⟩
  have P2 := hid p2
  have K2 : Hid (Kp Nb w w2) := hid (K0.out.trans t2.kp (fun i hi h => by
    rcases h with h | h
    · have := HNW.out; omega
    · simp [Value.ownBlock] at h))
  clear p2 t2 CP HP
  go_wp2_with fail
  refine (pen_bytes (N + 1) v2 BX w2 P2.out (by have := HLX.out; omega)).mono ?_
  rintro r w3 ⟨v3, rfl, o3, k3⟩
  have HO := hid (show BySl Nb w3 v3 BX from BySl.ofOwn o3 P2.out.bytes (fun _ _ _ h => h))
  have HV : Hid (OwnV w v3 w3) := hid (fun g hg => by
    obtain ⟨h1, o, ho, -⟩ := row_cells o3 hg
    exact ⟨by have := K2.out.size; omega, (Array.getElem?_eq_some_iff.1 ho).1⟩)
  have K3 := hid (K2.out.trans k3 (fun _ _ h => h))
  obtain ⟨a3, c3, rfl⟩ := own_shape o3
  clear o3 k3
  go_wp2
  go_ret
  exact ⟨_, rfl, HO.out, HV.out, K3.out⟩
set_option maxRecDepth 100000 in
set_option maxHeartbeats 4000000 in
theorem ribytes_any (x : ItQ) (vp vv : Value) (w : World) (h : ItOk w x vp vv) (hr : rightI x = true) :
    Calls Tryz.prog 23 #[itVq x vp vv] w fun e w' => e = .returned (.string (st (bytesI x))) ∧ Kp Nb w w' := by
  obtain ⟨pp, dp, rfl⟩ := h.past.shape
  obtain ⟨pv, dv, rfl⟩ := by_shape h.val
  obtain ⟨q1, q2, q3, q4, q5, q6, q7⟩ := rightI_facts hr
  obtain ⟨N, hN⟩ : ∃ N, w.heap.size = N := ⟨_, rfl⟩
  obtain ⟨W, hW⟩ : ∃ W, W = w.alloc (.cells #[.string (st x.key), .int .i64 x.dn, .int .i64 x.dd, .slice pp x.past.length dp, .bool x.gone, .slice pv x.val.length dv] 28) := ⟨_, rfl⟩
  have HB : Hid (Blk W N 28 (itL (st x.key) x.dn x.dd (.slice pp x.past.length dp) x.gone (.slice pv x.val.length dv))) := hid (by rw [hW, ← hN]; exact Blk.new w _ (itL (st x.key) x.dn x.dd (.slice pp x.past.length dp) x.gone (.slice pv x.val.length dv)))
  have K0 : Hid (Kp Nb w W) := hid (by rw [hW]; exact (Kp.refl Nb w).alloc _)
  have HX := hid (h.kept K0.out)
  have C0 : Hid (∀ wx, Calls Tryz.prog 60 #[.string (st x.key)] wx fun e w' => e = .returned (.string (st (textB x.key))) ∧ Kp Nb wx w') := hid (fun wx => refn_text x.key wx (by omega))
  have C1 : Hid (∀ wx, Calls Tryz.prog 61 #[.int .u64 x.dn] wx fun e w' => e = .returned (.string (st (numBytes x.dn))) ∧ Kp Nb wx w') := hid (fun wx => refn_number x.dn wx (by omega) (by omega))
  have C2 : Hid (∀ wx, Calls Tryz.prog 61 #[.int .u64 x.dd] wx fun e w' => e = .returned (.string (st (numBytes x.dd))) ∧ Kp Nb wx w') := hid (fun wx => refn_number x.dd wx (by omega) (by omega))
  have C3 : Hid (∀ wx, Kp Nb W wx → Calls Tryz.prog 62 #[.slice pp x.past.length dp] wx fun e w' => e = .returned (.string (st (bytesC x.past))) ∧ Kp Nb wx w') := hid (fun wx k => rbytes_any _ _ wx (HX.out.past.kept k) (right_good q4) (by omega))
  have C4 : Hid (∀ wx, Calls Tryz.prog 60 #[.string (st x.val)] wx fun e w' => e = .returned (.string (st (textB x.val))) ∧ Kp Nb wx w') := hid (fun wx => refn_text x.val wx (by omega))
  have CV : Hid (∀ wx, Kp Nb W wx → (convert 26 9 (.slice pv x.val.length dv)).run Tryz.prog wx = .ok (.string (st x.val)) wx) := hid (fun wx k => conv_any (HX.out.val.kept k (fun _ h => h)))
  have W1 : Hid (IntKind.u64.wrap x.dn = x.dn) := hid (IntWalk.u64_in _ (by omega))
  have W2 : Hid (IntKind.u64.wrap x.dd = x.dd) := hid (IntWalk.u64_in _ (by omega))
  have l1 := numBytes_length x.dn (by omega)
  have l2 := numBytes_length x.dd (by omega)
  have l3 : (textB x.key).length ≤ 33 := by unfold textB; rw [List.length_append]; have := numBytes_length (x.key.length : Int) (by omega); omega
  have l4 : (textB x.val).length ≤ 73 := by unfold textB; rw [List.length_append]; have := numBytes_length (x.val.length : Int) (by omega); omega
  have l5 : (bytesC x.past).length ≤ 900 := by unfold bytesC; rw [List.length_append]; have := numBytes_length (x.past.length : Int) (by omega); have := runsB_len x.past (right_good q4); omega
  have HBI : Hid (bytesI x = textB x.key ++ numBytes x.dn ++ numBytes x.dd ++ bytesC x.past ++ (if x.gone then [1] else [0] ++ textB x.val)) := hid rfl
  rw [HBI.out]
  obtain ⟨key, dn, dd, past, gn, val⟩ := x
  unfold itVq itV at *
  dsimp only at *
  clear h hr q1 q2 q3 q4 q5 q6 q7 HBI HX
  obtain ⟨nP, hnP⟩ : ∃ n, past.length = n := ⟨_, rfl⟩
  obtain ⟨nV, hnV⟩ : ∃ n, val.length = n := ⟨_, rfl⟩
  obtain ⟨x0, hx0⟩ : ∃ z, textB key = z := ⟨_, rfl⟩
  obtain ⟨x1, hx1⟩ : ∃ z, numBytes dn = z := ⟨_, rfl⟩
  obtain ⟨x2, hx2⟩ : ∃ z, numBytes dd = z := ⟨_, rfl⟩
  obtain ⟨x3, hx3⟩ : ∃ z, bytesC past = z := ⟨_, rfl⟩
  obtain ⟨x4, hx4⟩ : ∃ z, textB val = z := ⟨_, rfl⟩
  obtain ⟨sk, hsk⟩ : ∃ s, st key = s := ⟨_, rfl⟩
  obtain ⟨sv, hsv⟩ : ∃ s, st val = s := ⟨_, rfl⟩
  simp only [hnP, hnV, hsk, hsv, hx0, hx1, hx2, hx3, hx4] at hW HB C0 C1 C2 C3 C4 CV l1 l2 l3 l4 l5 ⊢
  clear hnP hnV hsk hsv hx0 hx1 hx2 hx3 hx4
  obtain ⟨t0, ht0⟩ : ∃ s, st x0 = s := ⟨_, rfl⟩
  obtain ⟨t1, ht1⟩ : ∃ s, st x1 = s := ⟨_, rfl⟩
  obtain ⟨t2, ht2⟩ : ∃ s, st x2 = s := ⟨_, rfl⟩
  obtain ⟨t3, ht3⟩ : ∃ s, st x3 = s := ⟨_, rfl⟩
  obtain ⟨t4, ht4⟩ : ∃ s, st x4 = s := ⟨_, rfl⟩
  obtain ⟨t01, ht01⟩ : ∃ s, st (x0 ++ x1) = s := ⟨_, rfl⟩
  obtain ⟨t02, ht02⟩ : ∃ s, st (x0 ++ x1 ++ x2) = s := ⟨_, rfl⟩
  obtain ⟨t03, ht03⟩ : ∃ s, st (x0 ++ x1 ++ x2 ++ x3) = s := ⟨_, rfl⟩
  obtain ⟨tg, htg⟩ : ∃ s, st (x0 ++ x1 ++ x2 ++ x3 ++ [1]) = s := ⟨_, rfl⟩
  obtain ⟨tz, htz⟩ : ∃ s, st (x0 ++ x1 ++ x2 ++ x3 ++ [0]) = s := ⟨_, rfl⟩
  obtain ⟨tv, htv⟩ : ∃ s, st (x0 ++ x1 ++ x2 ++ x3 ++ [0] ++ x4) = s := ⟨_, rfl⟩
  have A1 : Hid (∀ w : World, (Op.stringOp .add t0 t1).run Tryz.prog w = .ok (.string t01) w) := hid (fun w => by rw [← ht0, ← ht1, ← ht01]; exact st_add w _ _ (by omega) (by omega))
  have A2 : Hid (∀ w : World, (Op.stringOp .add t01 t2).run Tryz.prog w = .ok (.string t02) w) := hid (fun w => by rw [← ht01, ← ht2, ← ht02]; exact st_add w _ _ (by rw [List.length_append]; omega) (by omega))
  have A3 : Hid (∀ w : World, (Op.stringOp .add t02 t3).run Tryz.prog w = .ok (.string t03) w) := hid (fun w => by rw [← ht02, ← ht3, ← ht03]; exact st_add w _ _ (by simp only [List.length_append]; omega) (by omega))
  have A4 : ∀ w : World, (Op.stringOp .add t03 ⟨#[1]⟩).run Tryz.prog w = .ok (.string tg) w := fun w => by rw [← ht03, ← htg]; exact st_add w _ [1] (by simp only [List.length_append]; omega) (by decide)
  have A5 : ∀ w : World, (Op.stringOp .add t03 ⟨#[0]⟩).run Tryz.prog w = .ok (.string tz) w := fun w => by rw [← ht03, ← htz]; exact st_add w _ [0] (by simp only [List.length_append]; omega) (by decide)
  have A6 : ∀ w : World, (Op.stringOp .add tz t4).run Tryz.prog w = .ok (.string tv) w := fun w => by rw [← htz, ← ht4, ← htv]; exact st_add w _ _ (by simp only [List.length_append, List.length_singleton]; omega) (by omega)
  have HRES : Hid (st (x0 ++ x1 ++ x2 ++ x3 ++ (if gn then [1] else [0] ++ x4)) = if gn then tg else tv) := hid (by
    cases gn
    · rw [if_neg (by decide), if_neg (by decide), ← htv]; simp only [List.append_assoc]
    · rw [if_pos rfl, if_pos rfl, ← htg])
  rw [HRES.out]
  rw [ht0] at C0
  rw [ht1] at C1
  rw [ht2] at C2
  rw [ht3] at C3
  rw [ht4] at C4
  clear HRES ht0 ht1 ht2 ht3 ht4 ht01 ht02 ht03 htg htz htv l1 l2 l3 l4 l5
  go_enter Tryz.func23, Tryz.ntmps23
  go_upto_region 1 with fail
  rw [← hW]
  clear hW hN
  refine V3.region_vals2 [none, none, none, some 19, some 0, some 1, some 2, some 3, some 4, some 5, some 6, some 7, some 8, some 9, some 10, some 11, some 12, some 13, some 14, some 15, some 16, some 17, some 18, none, none, none, none, none, none, none, none, none, none, none] [[(1, none)], [(4, some 0)], [(5, some 1)], [(1, none)], [(7, some 3)], [(8, some 4)], [(9, some 5)], [(10, some 6)], [(6, some 2), (11, some 7)], [(1, none)], [(13, some 9)], [(14, some 10)], [(15, some 11)], [(16, some 12)], [(12, some 8), (17, some 13)], [(1, none)], [(19, some 15)], [(20, some 16)], [(18, some 14), (21, some 17)], [(22, some 18)]] [some 4, some 5, some 6, some 7, some 8, some 9, some 10, some 11, some 12, some 13, some 14, some 15, some 16, some 17, some 18, some 19, some 20, some 21, some 22, some 3] [.pointer (some ⟨N, 0, none⟩), .string sk, .string t0, .pointer (some ⟨N, 1, none⟩), .pointer (some ⟨N, 1, none⟩), .int .i64 dn, .int .u64 dn, .string t1, .string t01, .pointer (some ⟨N, 1, none⟩), .pointer (some ⟨N, 2, none⟩), .int .i64 dd, .int .u64 dd, .string t2, .string t02, .pointer (some ⟨N, 3, none⟩), .slice pp nP dp, .string t3, .string t03, .string t03] (fun w' => Hid (Kp Nb W w')) (by kernel_rfl) (by kernel_rfl) (by kernel_rfl) ?hS (V3.VFrom.all (n := 20) (by kernel_rfl) ?hstep) ?hend
  case hstep =>
    refine V3.VFrom.cons (V3.VStep.val _ rfl _ rfl (.pointer (some ⟨N, 0, none⟩)) rfl trivial (fun ev wq hS he hr => ?_)) ?_
    · have r0 : ev (.tmp 1) = .pointer (some ⟨N, 0, none⟩) := hr (1, none) (by simp); have hk := he.1; clear hr he
      go_simp
    refine V3.VFrom.cons (V3.VStep.val _ rfl _ rfl (.string sk) rfl trivial (fun ev wq hS he hr => ?_)) ?_
    · have r0 : ev (.tmp 4) = .pointer (some ⟨N, 0, none⟩) := hr (4, some 0) (by simp); have hk := he.1; clear hr he
      have c0 := (show World.cell? wq ⟨N, 0, none⟩ = some (.string sk) from (HB.out.kept hS.out (fun h => h)).cell 0)
      go_simp
    refine V3.VFrom.cons (V3.VStep.call _ rfl _ rfl (.string t0) rfl trivial 60 #[.string sk] (fun ev wq hS he hr => ?_) (fun wq hS => ?_)) ?_
    · have r0 : ev (.tmp 5) = .string sk := hr (5, some 1) (by simp); have hk := he.1; have hf := he.2; clear hr he
      go_simp
    · exact (C0.out wq).mono fun e w' ⟨h1, h2⟩ => ⟨h1, hS.out.trans h2 (fun _ _ h => h)⟩
    refine V3.VFrom.cons (V3.VStep.val _ rfl _ rfl (.pointer (some ⟨N, 1, none⟩)) rfl trivial (fun ev wq hS he hr => ?_)) ?_
    · have r0 : ev (.tmp 1) = .pointer (some ⟨N, 0, none⟩) := hr (1, none) (by simp); have hk := he.1; clear hr he
      go_simp
    refine V3.VFrom.cons (V3.VStep.val _ rfl _ rfl (.pointer (some ⟨N, 1, none⟩)) rfl trivial (fun ev wq hS he hr => ?_)) ?_
    · have r0 : ev (.tmp 7) = .pointer (some ⟨N, 1, none⟩) := hr (7, some 3) (by simp); have hk := he.1; clear hr he
      go_simp
    refine V3.VFrom.cons (V3.VStep.val _ rfl _ rfl (.int .i64 dn) rfl trivial (fun ev wq hS he hr => ?_)) ?_
    · have r0 : ev (.tmp 8) = .pointer (some ⟨N, 1, none⟩) := hr (8, some 4) (by simp); have hk := he.1; clear hr he
      have c0 := (show World.cell? wq ⟨N, 1, none⟩ = some (.int .i64 dn) from (HB.out.kept hS.out (fun h => h)).cell 1)
      go_simp
    refine V3.VFrom.cons (V3.VStep.val _ rfl _ rfl (.int .u64 dn) rfl trivial (fun ev wq hS he hr => ?_)) ?_
    · have r0 : ev (.tmp 9) = .int .i64 dn := hr (9, some 5) (by simp); have hk := he.1; clear hr he
      have e1 := W1.out
      go_simp
    refine V3.VFrom.cons (V3.VStep.call _ rfl _ rfl (.string t1) rfl trivial 61 #[.int .u64 dn] (fun ev wq hS he hr => ?_) (fun wq hS => ?_)) ?_
    · have r0 : ev (.tmp 10) = .int .u64 dn := hr (10, some 6) (by simp); have hk := he.1; have hf := he.2; clear hr he
      go_simp
    · exact (C1.out wq).mono fun e w' ⟨h1, h2⟩ => ⟨h1, hS.out.trans h2 (fun _ _ h => h)⟩
    refine V3.VFrom.cons (V3.VStep.val _ rfl _ rfl (.string t01) rfl trivial (fun ev wq hS he hr => ?_)) ?_
    · have r0 : ev (.tmp 6) = .string t0 := hr (6, some 2) (by simp); have r1 : ev (.tmp 11) = .string t1 := hr (11, some 7) (by simp); have hk := he.1; clear hr he
      have e1 := A1.out wq
      go_simp
    refine V3.VFrom.cons (V3.VStep.val _ rfl _ rfl (.pointer (some ⟨N, 1, none⟩)) rfl trivial (fun ev wq hS he hr => ?_)) ?_
    · have r0 : ev (.tmp 1) = .pointer (some ⟨N, 0, none⟩) := hr (1, none) (by simp); have hk := he.1; clear hr he
      go_simp
    refine V3.VFrom.cons (V3.VStep.val _ rfl _ rfl (.pointer (some ⟨N, 2, none⟩)) rfl trivial (fun ev wq hS he hr => ?_)) ?_
    · have r0 : ev (.tmp 13) = .pointer (some ⟨N, 1, none⟩) := hr (13, some 9) (by simp); have hk := he.1; clear hr he
      go_simp
    refine V3.VFrom.cons (V3.VStep.val _ rfl _ rfl (.int .i64 dd) rfl trivial (fun ev wq hS he hr => ?_)) ?_
    · have r0 : ev (.tmp 14) = .pointer (some ⟨N, 2, none⟩) := hr (14, some 10) (by simp); have hk := he.1; clear hr he
      have c0 := (show World.cell? wq ⟨N, 2, none⟩ = some (.int .i64 dd) from (HB.out.kept hS.out (fun h => h)).cell 2)
      go_simp
    refine V3.VFrom.cons (V3.VStep.val _ rfl _ rfl (.int .u64 dd) rfl trivial (fun ev wq hS he hr => ?_)) ?_
    · have r0 : ev (.tmp 15) = .int .i64 dd := hr (15, some 11) (by simp); have hk := he.1; clear hr he
      have e1 := W2.out
      go_simp
    refine V3.VFrom.cons (V3.VStep.call _ rfl _ rfl (.string t2) rfl trivial 61 #[.int .u64 dd] (fun ev wq hS he hr => ?_) (fun wq hS => ?_)) ?_
    · have r0 : ev (.tmp 16) = .int .u64 dd := hr (16, some 12) (by simp); have hk := he.1; have hf := he.2; clear hr he
      go_simp
    · exact (C2.out wq).mono fun e w' ⟨h1, h2⟩ => ⟨h1, hS.out.trans h2 (fun _ _ h => h)⟩
    refine V3.VFrom.cons (V3.VStep.val _ rfl _ rfl (.string t02) rfl trivial (fun ev wq hS he hr => ?_)) ?_
    · have r0 : ev (.tmp 12) = .string t01 := hr (12, some 8) (by simp); have r1 : ev (.tmp 17) = .string t2 := hr (17, some 13) (by simp); have hk := he.1; clear hr he
      have e1 := A2.out wq
      go_simp
    refine V3.VFrom.cons (V3.VStep.val _ rfl _ rfl (.pointer (some ⟨N, 3, none⟩)) rfl trivial (fun ev wq hS he hr => ?_)) ?_
    · have r0 : ev (.tmp 1) = .pointer (some ⟨N, 0, none⟩) := hr (1, none) (by simp); have hk := he.1; clear hr he
      go_simp
    refine V3.VFrom.cons (V3.VStep.val _ rfl _ rfl (.slice pp nP dp) rfl trivial (fun ev wq hS he hr => ?_)) ?_
    · have r0 : ev (.tmp 19) = .pointer (some ⟨N, 3, none⟩) := hr (19, some 15) (by simp); have hk := he.1; clear hr he
      have c0 := (show World.cell? wq ⟨N, 3, none⟩ = some (.slice pp nP dp) from (HB.out.kept hS.out (fun h => h)).cell 3)
      go_simp
    refine V3.VFrom.cons (V3.VStep.call _ rfl _ rfl (.string t3) rfl trivial 62 #[.slice pp nP dp] (fun ev wq hS he hr => ?_) (fun wq hS => ?_)) ?_
    · have r0 : ev (.tmp 20) = .slice pp nP dp := hr (20, some 16) (by simp); have hk := he.1; have hf := he.2; clear hr he
      go_simp
    · exact (C3.out wq hS.out).mono fun e w' ⟨h1, h2⟩ => ⟨h1, hS.out.trans h2 (fun _ _ h => h)⟩
    refine V3.VFrom.cons (V3.VStep.val _ rfl _ rfl (.string t03) rfl trivial (fun ev wq hS he hr => ?_)) ?_
    · have r0 : ev (.tmp 18) = .string t02 := hr (18, some 14) (by simp); have r1 : ev (.tmp 21) = .string t3 := hr (21, some 17) (by simp); have hk := he.1; clear hr he
      have e1 := A3.out wq
      go_simp
    refine V3.VFrom.cons (V3.VStep.val _ rfl _ rfl (.string t03) rfl trivial (fun ev wq hS he hr => ?_)) ?_
    · have r0 : ev (.tmp 22) = .string t03 := hr (22, some 18) (by simp); have hk := he.1; clear hr he
      go_simp
    exact V3.VFrom.nil
  case hS => exact hid ((Kp.refl Nb W).drew)
  case hend =>
    intro w5 h5
    have HB5 := hid (HB.out.kept h5.out (fun h => h))
    have K5 := hid (K0.out.trans h5.out (fun _ _ h => h))
    have KW := hid h5.out
    clear h5 K0 C0 C1 C2 C3 A1 A2 A3 HB
    simp only [V3.putAll, List.zip_cons_cons, List.zip_nil_right, List.foldl_cons, List.foldl_nil, Act.put, List.setIfInBounds_toArray, List.set_cons_zero, List.set_cons_succ]
    have c4 : w5.cell? ⟨N, 4, none⟩ = some (.bool gn) := HB5.out.cell 4
    cases gn with
    | true =>
      go_wp2
      go_ret
      exact ⟨rfl, K5.out⟩
    | false =>
      have c5 : w5.cell? ⟨N, 5, none⟩ = some (.slice pv nV dv) := HB5.out.cell 5
      have cv := CV.out w5 KW.out
      go_wp2_with fail
      refine (C4.out w5).mono ?_
      rintro r w6 ⟨rfl, k6⟩
      have K6 := hid (K5.out.trans k6 (fun _ _ h => h))
      clear k6 c4 c5 cv
      go_wp2
      go_ret
      exact ⟨rfl, K6.out⟩
end
section
open Go.RowKit
abbrev OwB1 (N : Nat) (w : World) (v : Value) (zs : List Int) : Prop := w.ownsRow N 5 1 v zs.length (zs.map (Value.int .u8))
theorem OwB1.kept {S : Nat → Prop} {w w' : World} {N : Nat} {v : Value} {zs : List Int} (h : OwB1 N w v zs) (k : Kp S w w') (hS : ∀ i, S i → i < N) : OwB1 N w' v zs :=
  ownsRow_same h (fun g hg => by obtain ⟨hb, o, ho, -⟩ := row_cells h hg; exact k.heap (Array.getElem?_eq_some_iff.1 ho).1 (fun h => by have := hS g h; omega))
set_option maxRecDepth 100000 in
set_option maxHeartbeats 400000 in
theorem takew_on (B : Nat) (zs : List Int) (e : Int) (n : Nat) (w : World) {S : Nat → Prop} (hS : ∀ i, Jb B i → S i) (h : EyeOn S w B zs e) (hn : n ≤ zs.length) (hbig : zs.length ≤ 140737488355328) :
    Calls Tryz.prog 109 #[.pointer (some ⟨B, 0, none⟩), .int .i64 n] w fun r w' => (∃ v', r = .returned v' ∧ OwB1 w.heap.size w' v' (zs.take n)) ∧ EyeOn S w' B (zs.drop n) e ∧ Kp (Jb B) w w' := by
  have HS := hid hS
  clear hS
  have hlt := h.lt
  obtain ⟨v, hb, hv⟩ := h
  have c0 := hb.cell 0
  simp only [List.getElem?_cons_zero] at c0
  obtain ⟨x1, d1, t1, b1⟩ := hv.cutH n hn
  obtain ⟨x2, d2, t2, b2⟩ := hv.cutL n hn
  have HB := hid hb
  have H1 := hid b1
  have H2 := hid b2
  have hl : (zs.take n).length ≤ 140737488355328 := by rw [List.length_take]; omega
  have HL := hid hl
  have HLT := hid hlt
  clear hb hv b1 b2 hl hbig hlt hn
  go_enter Tryz.func109, Tryz.ntmps109
  go_wp2_with fail
  refine (clone_any _ (zs.take n) _ H1.out HL.out).mono ?_
  rintro r w1 ⟨v', rfl, ho, k1⟩
  obtain ⟨xo, co, rfl⟩ := own_slice ho
  have hb1 := HB.out.kept k1 (fun h => h)
  have c1 := hb1.cell 0
  simp only [List.getElem?_cons_zero] at c1
  have f1 := hb1.frozen 0
  have HB1 := hid hb1
  have hv1 : OwB1 w.heap.size w1 (.slice xo (zs.take n).length co) (zs.take n) := ho
  rw [List.length_take] at hv1
  have HV1 := hid hv1
  clear hv1
  have HV2 := hid (H2.out.kept (S' := Nb) k1 (fun _ h => absurd h (fun h => h)))
  have K1 := hid (k1.mono (S' := Jb B) (fun _ _ h => absurd h (fun h => h)))
  clear ho k1 hb1 c0
  go_wp2
  go_ret
  refine ⟨⟨_, rfl, ?_⟩, ⟨_, HB1.out.set 0 _, ?_⟩, K1.out.set 0 _⟩
  · exact HV1.out.kept ((Kp.refl (Jb B) _).set 0 _) (fun i h => by have h' : i = B := h; have := HLT.out; omega)
  · exact HV2.out.kept ((Kp.refl (Jb B) _).set 0 _) HS.out
set_option maxRecDepth 100000 in
set_option maxHeartbeats 400000 in
theorem fixedw_on (B : Nat) (zs : List Int) (e n : Int) (w : World) {S : Nat → Prop} (hS : ∀ i, Jb B i → S i) (h : EyeOn S w B zs e) (hbig : zs.length ≤ 140737488355328) :
    Calls Tryz.prog 94 #[.pointer (some ⟨B, 0, none⟩), .int .i64 n] w fun r w' => (∃ v', r = .returned v' ∧ OwB1 w.heap.size w' v' (fixN zs e n).1) ∧ EyeOn S w' B (fixN zs e n).2.1 (fixN zs e n).2.2 ∧ Kp (Jb B) w w' := by
  have HS := hid hS
  clear hS
  have H := hid h
  obtain ⟨v, hb, hv⟩ := h
  have c0 := hb.cell 0
  simp only [List.getElem?_cons_zero] at c0
  obtain ⟨x, c, rfl⟩ : ∃ x c, v = .slice x zs.length c := by
    rcases hv.2 with ⟨⟨a, c, rfl⟩, rfl⟩ | ⟨blk, off, cap, rfl, -⟩
    · exact ⟨a, c, rfl⟩
    · exact ⟨_, _, rfl⟩
  clear hb hv
  obtain ⟨R, hR⟩ : ∃ R, R = fixN zs e n := ⟨_, rfl⟩
  rw [← hR]
  have HR := hid hR
  clear hR
  unfold fixN at HR
  have HBIG := hid hbig
  clear hbig
  by_cases he : e = 0
  · subst he
    have HR2 := HR.out.trans (if_neg (fun h => h rfl))
    by_cases hn : n < 0
    · rw [if_pos hn] at HR2
      subst HR2
      clear HR
      go_enter Tryz.func94, Tryz.ntmps94
      go_wp2_with fail
      refine (err_on B zs 0 _ HS.out H.out).mono ?_
      rintro r w1 ⟨rfl, rfl⟩
      go_wp2_with fail
      refine (fail_on B zs 0 2 _ HS.out H.out).mono ?_
      rintro r w2 ⟨rfl, h2, k2⟩
      have H2 := hid h2
      have K2 := hid k2
      clear h2 k2
      go_wp2
      go_ret
      exact ⟨⟨_, rfl, World.ownsRow_nil _ _ _ _⟩, H2.out, K2.out⟩
    · rw [if_neg hn] at HR2
      by_cases hl : (zs.length : Int) < n
      · rw [if_pos hl] at HR2
        subst HR2
        clear HR
        go_enter Tryz.func94, Tryz.ntmps94
        go_wp2_with fail
        refine (err_on B zs 0 _ HS.out H.out).mono ?_
        rintro r w1 ⟨rfl, rfl⟩
        go_wp2_with fail
        refine (fail_on B zs 0 10 _ HS.out H.out).mono ?_
        rintro r w2 ⟨rfl, h2, k2⟩
        have H2 := hid h2
        have K2 := hid k2
        clear h2 k2
        go_wp2
        go_ret
        exact ⟨⟨_, rfl, World.ownsRow_nil _ _ _ _⟩, H2.out, K2.out⟩
      · rw [if_neg hl] at HR2
        subst HR2
        clear HR
        obtain ⟨m, rfl⟩ := Int.eq_ofNat_of_zero_le (show 0 ≤ n by omega)
        rw [Int.toNat_natCast]
        go_enter Tryz.func94, Tryz.ntmps94
        go_wp2_with fail
        refine (err_on B zs 0 _ HS.out H.out).mono ?_
        rintro r w1 ⟨rfl, rfl⟩
        go_wp2_with fail
        refine (takew_on B zs 0 m _ HS.out H.out (by omega) HBIG.out).mono ?_
        rintro r w2 ⟨⟨v', rfl, h3⟩, h2, k2⟩
        have H2 := hid h2
        have H3 := hid h3
        have K2 := hid k2
        clear h2 k2 h3
        go_wp2
        go_ret
        exact ⟨⟨_, rfl, H3.out⟩, H2.out, K2.out⟩
  · have HR2 := HR.out.trans (if_pos he)
    subst HR2
    clear HR
    have g1 : (e != 0) = true := by rw [bne_iff_ne]; exact he
    clear he
    go_enter Tryz.func94, Tryz.ntmps94
    go_wp2_with fail
    refine (err_on B zs e _ HS.out H.out).mono ?_
    rintro r w1 ⟨rfl, rfl⟩
    go_wp2
    go_ret
    exact ⟨⟨_, rfl, World.ownsRow_nil _ _ _ _⟩, H.out, Kp.refl _ _⟩
set_option maxRecDepth 100000 in
set_option maxHeartbeats 800000 in
theorem textw_on (B : Nat) (zs : List Int) (e most : Int) (w : World) {S : Nat → Prop} (hS : ∀ i, Jb B i → S i) (h : EyeOn S w B zs e) (hbig : zs.length ≤ 140737488355328) (hm0 : -9223372036854775808 ≤ most) (hm1 : most < 9223372036854775808) :
    Calls Tryz.prog 63 #[.pointer (some ⟨B, 0, none⟩), .int .i64 most] w fun r w' => (∃ v', r = .returned v' ∧ OwB1 w.heap.size w' v' (textN zs e most).1) ∧ EyeOn S w' B (textN zs e most).2.1 (textN zs e most).2.2 ∧ Kp (Jb B) w w' := by
  have HS := hid hS
  clear hS
  have hrng : 0 ≤ (readN zs e 18446744073709551615).1 ∧ (readN zs e 18446744073709551615).1 < 18446744073709551616 := by
    obtain ⟨v, _, hv⟩ := h
    exact readN_range zs e _ hv.1
  have hleft := readN_left zs e 18446744073709551615
  have H := hid h
  obtain ⟨R, hR⟩ : ∃ R, R = textN zs e most := ⟨_, rfl⟩
  rw [← hR]
  have HR := hid hR
  clear hR h
  unfold textN at HR
  go_enter Tryz.func63, Tryz.ntmps63
  go_wp2_with fail
  refine (number_on B zs e _ _ HS.out H.out).mono ?_
  rintro r w1 ⟨rfl, h1, k1⟩
  obtain ⟨⟨U, L, E⟩, hF⟩ : ∃ F, F = readN zs e 18446744073709551615 := ⟨_, rfl⟩
  rw [← hF] at HR hrng hleft h1 ⊢
  clear hF
  simp only at HR hrng hleft h1
  have HLE := hid (Nat.le_trans hleft hbig)
  have H1 := hid h1
  have K1 := hid k1
  clear h1 k1 hleft hbig
  go_wp2_with fail
  refine (err_on B L E _ HS.out H1.out).mono ?_
  rintro r w2 ⟨rfl, rfl⟩
  by_cases hE : E = 0
  · subst hE
    have HR2 := HR.out.trans (if_neg (fun h => h rfl))
    clear HR
    by_cases hm : most < 0 ∨ most < U
    · rw [if_pos hm] at HR2
      subst HR2
      by_cases hm2 : most < 0
      · go_wp2_with fail
        refine (fail_on B L 0 12 _ HS.out H1.out).mono ?_
        rintro r w3 ⟨rfl, h2, k2⟩
        have H2 := hid h2
        have K2 := hid (K1.out.trans k2 (fun _ _ h => h))
        clear h2 k2
        go_wp2
        go_ret
        exact ⟨⟨_, rfl, World.ownsRow_nil _ _ _ _⟩, H2.out, K2.out⟩
      · have hm3 : most < U := hm.resolve_left hm2
        have hm4 : 0 ≤ most := by omega
        have hw : IntKind.u64.wrap most = most := IntWalk.u64_in _ (by omega)
        clear hm hm2
        go_wp2_with fail
        refine (fail_on B L 0 12 _ HS.out H1.out).mono ?_
        rintro r w3 ⟨rfl, h2, k2⟩
        have H2 := hid h2
        have K2 := hid (K1.out.trans k2 (fun _ _ h => h))
        clear h2 k2
        go_wp2
        go_ret
        exact ⟨⟨_, rfl, World.ownsRow_nil _ _ _ _⟩, H2.out, K2.out⟩
    · rw [if_neg hm] at HR2
      subst HR2
      have hm4 : 0 ≤ most := by omega
      have hm5 : ¬ most < U := by omega
      have hm6 : U ≤ most := by omega
      have hw : IntKind.u64.wrap most = most := IntWalk.u64_in _ (by omega)
      have hw2 : wrap64 U = U := by unfold wrap64; omega
      clear hm
      go_wp2_with fail
      refine (fixedw_on B L 0 U _ HS.out H1.out HLE.out).mono ?_
      rintro r w3 ⟨⟨v', rfl, h3⟩, h2, k2⟩
      have H2 := hid h2
      have H3 := hid (ownsRow_le h3 K1.out.size)
      have K2 := hid (K1.out.trans k2 (fun _ _ h => h))
      clear h2 k2 h3
      go_wp2
      go_ret
      exact ⟨⟨_, rfl, H3.out⟩, H2.out, K2.out⟩
  · have HR2 := HR.out.trans (if_pos hE)
    subst HR2
    clear HR
    have g1 : (E != 0) = true := by rw [bne_iff_ne]; exact hE
    clear hE
    go_wp2
    go_ret
    exact ⟨⟨_, rfl, World.ownsRow_nil _ _ _ _⟩, H1.out, K1.out⟩
end

end Go.Proofs.YtogoophofgkboaaGreatDoor
