/-
  Of the texts VeD, VeE, VeF what is used. No condition but what each says.
-/
import Derived.Test.YtogoophofgkboaaGreatDoorQl
import Derived.Test.YtogoophofgkboaaGreatDoorQg
import Derived.Test.YtogoophofgkboaaGreatDoorQb
import Derived.Lib.ConvBytes
import Derived.Test.YtogoophofgkboaaGreatDoorQf
import Derived.Test.YtogoophofgkboaaGreatDoorQc
namespace Go.Proofs.YtogoophofgkboaaGreatDoor
section
open Go.RowKit
theorem str_under : ∃ u, Tryz.prog.underlying 9 = some u := ⟨_, Tryz.underlying9⟩
set_option maxRecDepth 100000 in
theorem conv_str (zs : List Int) (hz : IsBytes zs) (hl : zs.length ≤ 1000000) (w : World) : ∃ (y : Option Addr) (c : Nat) (w' : World), (convert 9 26 (.string (st zs))).run Tryz.prog w = .ok (.slice y zs.length c) w' ∧ BySl (fun i => i < w.heap.size) w' (.slice y zs.length c) zs ∧ Kp Nb w w' := by
  obtain ⟨u, hu⟩ := str_under
  have h := Lib.run_convert_string_bytes (P := Tryz.prog) w 9 26 5 (st zs) hu Tryz.underlying26 Tryz.underlying5
  rw [st_size] at h
  refine ⟨_, _, _, h, ⟨hz, .inr ⟨w.heap.size, 0, _, rfl, grownCap_ge _ _ _ _, grownCap_le_maxLen _ _ _ _ (by unfold maxLen; omega), fun i hi => ?_, fun _ h => absurd h (Nat.lt_irrefl _)⟩⟩, ⟨?_, ?_, ?_, ?_, fun k hk _ => Lib.bytesWorld_at_old _ _ _ _ hk⟩⟩
  · rw [Nat.zero_add, Lib.bytesWorld_cell _ _ _ i (by rw [st_size]; exact hi)]
    congr 2
    have e : (st zs).data.toList = zs.map fun z => UInt8.ofNat z.toNat := by simp [st]
    rw [e]
    have hi' : i < (zs.map fun z => UInt8.ofNat z.toNat).length := by rw [List.length_map]; exact hi
    rw [List.getD_eq_getElem?_getD, List.getElem?_eq_getElem hi', List.getElem_map, Option.getD_some, UInt8.toNat_ofNat', List.getElem?_eq_getElem hi, Option.getD_some]
    have := hz i
    rw [List.getElem?_eq_getElem hi, Option.getD_some] at this
    omega
  · simp [Lib.bytesWorld, World.freeze, World.alloc, World.drew, -World.alloc_eq, -World.drew_eq]
  · simp [Lib.bytesWorld, World.freeze, World.alloc, World.drew, -World.alloc_eq, -World.drew_eq]
  · simp [Lib.bytesWorld, World.freeze, World.alloc, World.drew, -World.alloc_eq, -World.drew_eq]
  · rw [Lib.bytesWorld_size]; omega
def textB (zs : List Int) : List Int := numBytes (zs.length : Int) ++ zs
def bytesI (x : ItQ) : List Int := textB x.key ++ numBytes x.dn ++ numBytes x.dd ++ bytesC x.past ++ (if x.gone then [1] else [0] ++ textB x.val)
theorem num_one : numBytes 1 = [1] := by unfold numBytes; rw [if_pos (by decide)]
theorem num_zero : numBytes 0 = [0] := by unfold numBytes; rw [if_pos (by decide)]
theorem rightI_facts {x : ItQ} (h : rightI x = true) : x.key.length ≤ 24 ∧ (0 ≤ x.dn ∧ x.dn ≤ 7 ∧ 1 ≤ x.dd ∧ x.dd ≤ 1099511627776) ∧ x.past.length ≤ 32 ∧ rightC x.past = true ∧ x.val.length ≤ 64 ∧ 1 ≤ x.key.length ∧ (x.gone = true → x.val = []) := by
  unfold rightI goodB at h
  simp only [Bool.and_eq_true, decide_eq_true_eq, Bool.not_eq_true', Bool.and_eq_false_iff, decide_eq_false_iff_not] at h
  obtain ⟨⟨⟨⟨⟨⟨⟨h1, h2⟩, h3⟩, h4⟩, h5⟩, h6⟩, h7⟩, h8⟩ := h
  refine ⟨h2, h3, h4, h5, h7, h1, fun hg => ?_⟩
  rcases h8 with h8 | h8
  · rw [hg] at h8; cases h8
  · exact List.length_eq_zero_iff.1 (by omega)
/-- Bytes that lie apart from a pen still do. -/
theorem by_pen {w w' : World} {P : Nat} {v0 v' vv : Value} {zs : List Int} (h : BySl (Pb P v0) w vv zs) (t : PenTo w w' P v0 v') : BySl (Pb P v') w' vv zs := by
  obtain ⟨hz, hv⟩ := h
  refine ⟨hz, ?_⟩
  rcases hv with hv | ⟨blk, off, cap, rfl, hc, hm, hcell, hn⟩
  · exact .inl hv
  · by_cases h0 : zs.length = 0
    · obtain rfl := List.eq_nil_of_length_eq_zero h0
      exact .inl ⟨⟨_, _, rfl⟩, rfl⟩
    · have hlt : blk < w.heap.size := cell_lt (hcell 0 (by omega))
      have hnb := hn (by omega)
      refine .inr ⟨blk, off, cap, rfl, hc, hm, fun i hi => t.kp.cell (hcell i hi) hnb, fun _ hp => ?_⟩
      rcases hp with hp | hp
      · exact hnb (.inl hp)
      · rcases t.at' with e | e
        · exact hnb (.inr (by rw [← e]; exact hp))
        · have := e blk hp; omega
theorem by_old {w : World} {v : Value} {zs : List Int} (h : BySl Nb w v zs) : BySl (fun i => w.heap.size ≤ i) w v zs := by
  obtain ⟨hz, hv⟩ := h
  refine ⟨hz, ?_⟩
  rcases hv with hv | ⟨blk, off, cap, rfl, hc, hm, hcell, hn⟩
  · exact .inl hv
  · by_cases h0 : zs.length = 0
    · obtain rfl := List.eq_nil_of_length_eq_zero h0
      exact .inl ⟨⟨_, _, rfl⟩, rfl⟩
    · have hlt : blk < w.heap.size := cell_lt (hcell 0 (by omega))
      exact .inr ⟨blk, off, cap, rfl, hc, hm, hcell, fun _ hp => by have : w.heap.size ≤ blk := hp; omega⟩
/-- A past apart from a pen. -/
def ApC (w : World) (P : Nat) (v0 vp : Value) : Prop := ∀ g, vp.ownBlock = some g → g ≠ P ∧ v0.ownBlock ≠ some g ∧ g < w.heap.size
theorem ApC.pen {w w' : World} {P : Nat} {v0 v' vp : Value} (h : ApC w P v0 vp) (t : PenTo w w' P v0 v') : ∀ g, vp.ownBlock = some g → g ≠ P ∧ v'.ownBlock ≠ some g := fun g hg => by
  obtain ⟨h1, h2, h3⟩ := h g hg
  refine ⟨h1, fun e => ?_⟩
  rcases t.at' with e' | e'
  · exact h2 (by rw [← e']; exact e)
  · have := e' g e; omega
set_option maxRecDepth 100000 in
set_option maxHeartbeats 8000000 in
theorem iput_at (P : Nat) (v0 : Value) (zs0 : List Int) (x : ItQ) (vp vv : Value) (w : World) (h : ItOk w x vp vv) (hp : PenAt w P v0 zs0) (hl0 : zs0.length ≤ 1000000) (hap : ApC w P v0 vp) (hav : BySl (Pb P v0) w vv x.val) :
    Calls Tryz.prog 22 #[.pointer (some ⟨P, 0, none⟩), itVq x vp vv] w fun e w' => e = .returned (.bool (rightI x)) ∧ ∃ v', PenAt w' P v' (zs0 ++ (if rightI x then bytesI x else [])) ∧ PenTo w w' P v0 v' := by
  obtain ⟨pp, dp, rfl⟩ := h.past.shape
  obtain ⟨pv, dv, rfl⟩ := by_shape h.val
  obtain ⟨N, hN⟩ : ∃ N, w.heap.size = N := ⟨_, rfl⟩
  obtain ⟨W, hW⟩ : ∃ W, W = w.alloc (.cells #[.string (st x.key), .int .i64 x.dn, .int .i64 x.dd, .slice pp x.past.length dp, .bool x.gone, .slice pv x.val.length dv] 28) := ⟨_, rfl⟩
  have HB : Hid (Blk W N 28 (itL (st x.key) x.dn x.dd (.slice pp x.past.length dp) x.gone (.slice pv x.val.length dv))) := hid (by rw [hW, ← hN]; exact Blk.new w _ (itL (st x.key) x.dn x.dd (.slice pp x.past.length dp) x.gone (.slice pv x.val.length dv)))
  have K0 : Hid (Kp Nb w W) := hid (by rw [hW]; exact (Kp.refl Nb w).alloc _)
  have HNP : Hid (N ≠ P ∧ v0.ownBlock ≠ some N) := hid ⟨by have := hp.lt; omega, fun e => by have := hp.own_lt e; omega⟩
  have HX := hid (h.kept K0.out)
  have HP0 : Hid (PenAt W P v0 zs0) := hid (hp.kept K0.out (fun h => h) (fun _ _ h => h))
  have HAP : Hid (ApC W P v0 (.slice pp x.past.length dp)) := hid (fun g hg => ⟨(hap g hg).1, (hap g hg).2.1, by have := (hap g hg).2.2; have := K0.out.size; omega⟩)
  have HAV : Hid (BySl (Pb P v0) W (.slice pv x.val.length dv) x.val) := hid (hav.kept K0.out (fun _ h => h.elim))
  have HL0 := hid hl0
  have CR := hid (fun wx (k : Kp Nb W wx) => iright_any x _ _ wx (HX.out.kept k))
  have HTW : Hid (PenTo w W P v0 v0) := hid ((PenTo.refl w P v0).kpNb K0.out)
  obtain ⟨R, hR⟩ : ∃ b, rightI x = b := ⟨_, rfl⟩
  have HRE := hid hR
  rw [hR] at CR ⊢
  clear h hp hl0 hap hav hR
  have HQ : Hid (R = true → (x.key.length ≤ 24 ∧ (0 ≤ x.dn ∧ x.dn ≤ 7 ∧ 1 ≤ x.dd ∧ x.dd ≤ 1099511627776) ∧ x.past.length ≤ 32 ∧ rightC x.past = true ∧ x.val.length ≤ 64)) := hid (fun e => by
    have := rightI_facts (HRE.out.trans e)
    exact ⟨this.1, this.2.1, this.2.2.1, this.2.2.2.1, this.2.2.2.2.1⟩)
  have HKB := hid HX.out.key
  have CV := hid (conv_str x.key HKB.out)
  have HPC := hid HX.out.past
  have HBI : Hid (bytesI x = textB x.key ++ numBytes x.dn ++ numBytes x.dd ++ bytesC x.past ++ (if x.gone then [1] else [0] ++ textB x.val)) := hid rfl
  obtain ⟨key, dn, dd, past, gn, val⟩ := x
  unfold itVq itV at *
  dsimp only at *
  obtain ⟨BI, hBI⟩ : ∃ b, bytesI ⟨key, dn, dd, past, gn, val⟩ = b := ⟨_, rfl⟩
  rw [hBI] at HBI ⊢
  clear HX HRE hBI
  obtain ⟨nP, hnP⟩ : ∃ n, past.length = n := ⟨_, rfl⟩
  obtain ⟨nV, hnV⟩ : ∃ n, val.length = n := ⟨_, rfl⟩
  obtain ⟨nK, hnK⟩ : ∃ n, key.length = n := ⟨_, rfl⟩
  have HNP2 := hid hnP
  have HNV := hid hnV
  have HNK := hid hnK
  obtain ⟨sk, hsk⟩ : ∃ s, st key = s := ⟨_, rfl⟩
  simp only [hnP, hnV, hsk] at hW HB CR HAP HAV CV HPC HQ ⊢
  clear hnP hnV hnK hsk
  go_enter Tryz.func22, Tryz.ntmps22
  go_upto_region 1 with fail
  rw [← hW]
  clear hW hN
  go_wp2_with (first
    | (refine wpList_load_mid (by rfl) 28 (.tmp 3) (by rfl) N 0 (by rfl) (itL sk dn dd (.slice pp nP dp) gn (.slice pv nV dv)) _ (range_ofR HB.out) under_item.choose_spec rfl item_info ?_))
  refine (CR.out W (Kp.refl _ _)).mono ?_
  rintro r w1 ⟨rfl, k1⟩
  have T1 := hid ((PenTo.refl W P v0).kpNb k1)
  have P1 := hid (HP0.out.kept k1 (fun h => h) (fun _ _ h => h))
  clear k1 CR HP0
  cases R with
  | false =>
    go_wp2
    go_ret
    exact ⟨rfl, v0, by simpa using P1.out, HTW.out.trans T1.out⟩
  | true =>
    obtain ⟨q1, q2, q3, q4, q5⟩ := HQ.out rfl
    have HQ2 := hid (show key.length ≤ 24 ∧ (0 ≤ dn ∧ dn ≤ 7 ∧ 1 ≤ dd ∧ dd ≤ 1099511627776) ∧ nP ≤ 32 ∧ rightC past = true ∧ nV ≤ 64 from ⟨q1, q2, q3, q4, q5⟩)
    have hw1 : IntKind.u64.wrap dn = dn := IntWalk.u64_in _ (by omega)
    have hw2 : IntKind.u64.wrap dd = dd := IntWalk.u64_in _ (by omega)
    obtain ⟨yk, ck, w2, hcv, hbk, k2⟩ := CV.out (by omega) w1
    rw [HNK.out] at hcv hbk
    have HB1 := hid (T1.out.box HB.out HNP.out.1 HNP.out.2).1
    have HBK : Hid (BySl (Pb P v0) w2 (.slice yk nK ck) key) := hid (hbk.mono (fun i hi => by
      rcases hi with rfl | hi
      · exact P1.out.lt
      · exact P1.out.own_lt hi))
    have T2 := hid (T1.out.kpNb k2)
    have P2 := hid (P1.out.kept k2 (fun h => h) (fun _ _ h => h))
    have c0 : w1.cell? ⟨N, 0, none⟩ = some (.string sk) := HB1.out.cell 0
    clear hbk k2 T1 P1 CV HQ q1 q2 q3 q4 q5
    go_wp2_with fail
    refine (pen_text P v0 _ zs0 key w2 P2.out HBK.out (by have := HL0.out; have := HQ2.out; omega)).mono ?_
    rintro r w3 ⟨rfl, v3, p3, t3⟩
    have T3 := hid (T2.out.trans t3)
    have P3 := hid p3
    have HB3 := hid (T3.out.box HB.out HNP.out.1 HNP.out.2).1
    have c1 : w3.cell? ⟨N, 1, none⟩ = some (.int .i64 dn) := HB3.out.cell 1
    have LT := hid (show (zs0 ++ numBytes key.length ++ key).length ≤ 1000033 by
      rw [List.length_append, List.length_append]; have := numBytes_length (key.length : Int) (by have := HQ2.out; omega); have := HL0.out; have := HQ2.out; omega)
    clear p3 t3 T2 P2 HB1 HBK hcv c0
    obtain ⟨z3, hz3⟩ : ∃ z, zs0 ++ numBytes key.length ++ key = z := ⟨_, rfl⟩
    have HZ3 := hid hz3
    rw [hz3] at P3 LT
    clear hz3
    go_wp2_with fail
    refine (pen_number P v3 z3 dn w3 P3.out HQ2.out.2.1.1 (by have := HQ2.out; omega) (by have := LT.out; omega)).mono ?_
    rintro r w4 ⟨rfl, v4, p4, t4⟩
    have T4 := hid (T3.out.trans t4)
    have P4 := hid p4
    have HB4 := hid (T4.out.box HB.out HNP.out.1 HNP.out.2).1
    have c2 : w4.cell? ⟨N, 2, none⟩ = some (.int .i64 dd) := HB4.out.cell 2
    have LN := hid (numBytes_length dn (by have := HQ2.out; omega))
    clear p4 t4 T3 P3 HB3 c1
    go_wp2_with fail
    refine (pen_number P v4 (z3 ++ numBytes dn) dd w4 P4.out (by have := HQ2.out; omega) (by have := HQ2.out; omega) (by rw [List.length_append]; have := LT.out; have := LN.out; omega)).mono ?_
    rintro r w5 ⟨rfl, v5, p5, t5⟩
    have T5 := hid (T4.out.trans t5)
    have P5 := hid p5
    have HB5 := hid (T5.out.box HB.out HNP.out.1 HNP.out.2).1
    have c3 : w5.cell? ⟨N, 3, none⟩ = some (.slice pp nP dp) := HB5.out.cell 3
    have LM := hid (numBytes_length dd (by have := HQ2.out; omega))
    have LZ : Hid ((z3 ++ numBytes dn ++ numBytes dd).length ≤ 1000051) := hid (by rw [List.length_append, List.length_append]; have := LT.out; have := LN.out; have := LM.out; omega)
    have HC5 := hid (pen_sepV T5.out HPC.out (fun g hg => ⟨(HAP.out g hg).1, (HAP.out g hg).2.1⟩))
    clear p5 t5 T4 P4 HB4 c2
    have CD := dput_at P v5 _ (.slice pp nP dp) past w5 HC5.out P5.out (by have := LZ.out; omega) (HAP.out.pen T5.out) (by have := HNP2.out; have := HQ2.out; omega)
    have hpb : putB past = true := by unfold putB; rw [HQ2.out.2.2.2.1, decide_eq_true (by have := HNP2.out; have := HQ2.out; omega)]; rfl
    rw [hpb, if_pos rfl] at CD
    have CD := hid CD
    clear hpb
    go_wp2_with fail
    refine CD.out.mono ?_
    rintro r w6 ⟨rfl, v6, p6, t6⟩
    have T6 := hid (T5.out.trans t6)
    have P6 := hid p6
    have HB6 := hid (T6.out.box HB.out HNP.out.1 HNP.out.2).1
    have c4 : w6.cell? ⟨N, 4, none⟩ = some (.bool gn) := HB6.out.cell 4
    have LC : Hid ((z3 ++ numBytes dn ++ numBytes dd ++ bytesC past).length ≤ 1002000) := hid (by
      have e : (bytesC past).length = (numBytes (past.length : Int)).length + (runsB past).length := by unfold bytesC; rw [List.length_append]
      rw [List.length_append, e]
      have h1 := numBytes_length (past.length : Int) (by have := HNP2.out; have := HQ2.out; omega)
      have h2 := runsB_len past (right_good HQ2.out.2.2.2.1)
      have := LZ.out; have := HNP2.out; have := HQ2.out
      omega)
    clear p6 t6 T5 P5 HB5 c3 CD HC5
    obtain ⟨z6, hz6⟩ : ∃ z, z3 ++ numBytes dn ++ numBytes dd ++ bytesC past = z := ⟨_, rfl⟩
    have HZ6 := hid hz6
    rw [hz6] at P6 LC
    clear hz6
    cases gn with
    | true =>
      go_wp2_with fail
      refine (pen_number P v6 z6 1 w6 P6.out (by decide) (by decide) (by have := LC.out; omega)).mono ?_
      rintro r w7 ⟨rfl, v7, p7, t7⟩
      have P7 := hid p7
      have T7 := hid (T6.out.trans t7)
      clear p7 t7 c4
      go_wp2
      go_ret
      refine ⟨rfl, v7, ?_, HTW.out.trans T7.out⟩
      rw [HBI.out, if_pos trivial]
      have h7 := P7.out
      rw [num_one, ← HZ6.out, ← HZ3.out] at h7
      unfold textB
      simpa [List.append_assoc] using h7
    | false =>
      go_wp2_with fail
      refine (pen_number P v6 z6 0 w6 P6.out (by decide) (by decide) (by have := LC.out; omega)).mono ?_
      rintro r w7 ⟨rfl, v7, p7, t7⟩
      have P7 := hid p7
      have T7 := hid (T6.out.trans t7)
      have HB7 := hid (T7.out.box HB.out HNP.out.1 HNP.out.2).1
      have c5 : w7.cell? ⟨N, 5, none⟩ = some (.slice pv nV dv) := HB7.out.cell 5
      have HV7 := hid (by_pen HAV.out T7.out)
      have L7 : Hid ((z6 ++ numBytes 0).length ≤ 1002009) := hid (by rw [List.length_append, num_zero]; have := LC.out; simp only [List.length_singleton]; omega)
      clear p7 t7 c4
      go_wp2_with fail
      refine (pen_text P v7 _ _ val w7 P7.out HV7.out (by have := L7.out; have := HNV.out; have := HQ2.out; omega)).mono ?_
      rintro r w8 ⟨rfl, v8, p8, t8⟩
      have P8 := hid p8
      have T8 := hid (T7.out.trans t8)
      clear p8 t8 c5
      go_wp2
      go_ret
      refine ⟨rfl, v8, ?_, HTW.out.trans T8.out⟩
      rw [HBI.out, if_neg (by decide)]
      have h8 := P8.out
      rw [num_zero, ← HZ6.out, ← HZ3.out] at h8
      unfold textB
      simpa [List.append_assoc] using h8
end
section
open Go.RowKit
def bytesX (x : ItQ) : List Int := if rightI x then bytesI x else []
theorem bytesX_len (x : ItQ) : (bytesX x).length ≤ 2000 := by
  unfold bytesX
  split
  · rename_i h
    obtain ⟨h1, h2, h3, h4, h5, -, -⟩ := rightI_facts h
    have l1 := numBytes_length x.dn (by omega)
    have l2 := numBytes_length x.dd (by omega)
    have l3 := numBytes_length (x.key.length : Int) (by omega)
    have l4 := numBytes_length (x.val.length : Int) (by omega)
    have l5 := numBytes_length (x.past.length : Int) (by omega)
    have l6 := runsB_len x.past (right_good h4)
    unfold bytesI textB bytesC
    cases x.gone <;> simp only [List.length_append, if_true, if_false, List.length_singleton, Bool.false_eq_true] <;> omega
  · simp
set_option maxRecDepth 100000 in
set_option maxHeartbeats 4000000 in
theorem ibytes_any (x : ItQ) (vp vv : Value) (w : World) (h : ItOk w x vp vv) (hlo : ∀ g, vp.ownBlock = some g → g < w.heap.size) :
    Calls Tryz.prog 30 #[itVq x vp vv] w fun e w' => ∃ r, e = .returned r ∧ BySl Nb w' r (bytesX x) ∧ OwnV w r w' ∧ Kp Nb w w' := by
  obtain ⟨pp, dp, rfl⟩ := h.past.shape
  obtain ⟨pv, dv, rfl⟩ := by_shape h.val
  obtain ⟨N, hN⟩ : ∃ N, w.heap.size = N := ⟨_, rfl⟩
  obtain ⟨W0, hW0⟩ : ∃ W, W = w.alloc (.cells #[.string (st x.key), .int .i64 x.dn, .int .i64 x.dd, .slice pp x.past.length dp, .bool x.gone, .slice pv x.val.length dv] 28) := ⟨_, rfl⟩
  have hb0 : Blk W0 N 28 (itL (st x.key) x.dn x.dd (.slice pp x.past.length dp) x.gone (.slice pv x.val.length dv)) := by rw [hW0, ← hN]; exact Blk.new w _ (itL (st x.key) x.dn x.dd (.slice pp x.past.length dp) x.gone (.slice pv x.val.length dv))
  have hs0 : W0.heap.size = N + 1 := by rw [hW0, ← hN]; simp only [World.size_alloc]
  have k0 : Kp Nb w W0 := by rw [hW0]; exact (Kp.refl Nb w).alloc _
  obtain ⟨W, hW⟩ : ∃ W, W = W0.alloc (.cells #[.slice none 0 0] 45) := ⟨_, rfl⟩
  have HB : Hid (Blk W N 28 (itL (st x.key) x.dn x.dd (.slice pp x.past.length dp) x.gone (.slice pv x.val.length dv))) := hid (by rw [hW]; exact hb0.alloc _)
  have HP : Hid (PenAt W (N + 1) (.slice none 0 0) []) := hid (by rw [hW, ← hs0]; exact pen_new W0)
  have K0 : Hid (Kp Nb w W) := hid (by rw [hW]; exact k0.alloc _)
  have CP := hid (iput_at (N + 1) (.slice none 0 0) [] x _ _ W (h.kept K0.out) HP.out (by simp) (fun g hg => ⟨by have := hlo g hg; omega, by simp [Value.ownBlock], by have := hlo g hg; have := K0.out.size; omega⟩)
    (((by_old h.val).kept K0.out (fun _ h => h.elim)).mono (fun i hi => by
      rcases hi with rfl | hi
      · omega
      · simp [Value.ownBlock] at hi)))
  have HNW := hid hN
  rw [hW0] at hW
  unfold itVq itV at *
  have HBX : Hid (bytesX x = if rightI x then bytesI x else []) := hid rfl
  have HLX := hid (bytesX_len x)
  obtain ⟨BX, hBX⟩ : ∃ b, bytesX x = b := ⟨_, rfl⟩
  rw [hBX] at HBX HLX ⊢
  rw [List.nil_append, ← HBX.out] at CP
  obtain ⟨key, dn, dd, past, gn, val⟩ := x
  dsimp only at *
  obtain ⟨R, hR⟩ : ∃ b, rightI ⟨key, dn, dd, past, gn, val⟩ = b := ⟨_, rfl⟩
  rw [hR] at CP
  obtain ⟨nP, hnP⟩ : ∃ n, past.length = n := ⟨_, rfl⟩
  obtain ⟨nV, hnV⟩ : ∃ n, val.length = n := ⟨_, rfl⟩
  obtain ⟨sk, hsk⟩ : ∃ s, st key = s := ⟨_, rfl⟩
  simp only [hnP, hnV, hsk] at hW HB CP ⊢
  clear h hlo hN hb0 hs0 k0 hW0 hBX HBX hR hnP hnV hsk
  go_enter Tryz.func30, Tryz.ntmps30
  go_upto_region 2 with fail
  rw [HNW.out]
  try rw [HNW.out] at hW
  have hsz : (w.alloc (.cells #[.string sk, .int .i64 dn, .int .i64 dd, .slice pp nP dp, .bool gn, .slice pv nV dv] 28)).heap.size = N + 1 := by simp only [World.size_alloc]; rw [HNW.out]
  try simp only [hsz]
  rw [← hW]
  clear hW hsz
  go_wp2_with (first
    | (refine wpList_load_mid (by rfl) 28 (.tmp 1) (by rfl) N 0 (by rfl) (itL sk dn dd (.slice pp nP dp) gn (.slice pv nV dv)) _ (range_ofR HB.out) under_item.choose_spec rfl item_info ?_))
  refine CP.out.mono ?_
  rintro r w2 ⟨rfl, v2, p2, t2⟩
  have P2 := hid p2
  have K2 : Hid (Kp Nb w w2) := hid (K0.out.trans t2.kp (fun i hi h => by
    rcases h with h | h
    · have := HNW.out; omega
    · simp [Value.ownBlock] at h))
  clear p2 t2 CP HP
  go_wp2_with fail
  refine (pen_bytes (N + 1) v2 BX w2 P2.out (by have := HLX.out; omega)).mono ?_
  rintro r w3 ⟨v3, rfl, o3, k3⟩
  have HO := hid (show BySl Nb w3 v3 BX from BySl.ofOwn o3 P2.out.bytes (fun _ _ _ h => h))
  have HV : Hid (OwnV w v3 w3) := hid (fun g hg => by
    obtain ⟨h1, o, ho, -⟩ := row_cells o3 hg
    exact ⟨by have := K2.out.size; omega, (Array.getElem?_eq_some_iff.1 ho).1⟩)
  have K3 := hid (K2.out.trans k3 (fun _ _ h => h))
  obtain ⟨a3, c3, rfl⟩ := own_shape o3
  clear o3 k3
  go_wp2
  go_ret
  exact ⟨_, rfl, HO.out, HV.out, K3.out⟩
end
section
open Go.RowKit
abbrev OwB1 (N : Nat) (w : World) (v : Value) (zs : List Int) : Prop := w.ownsRow N 5 1 v zs.length (zs.map (Value.int .u8))
theorem OwB1.kept {S : Nat → Prop} {w w' : World} {N : Nat} {v : Value} {zs : List Int} (h : OwB1 N w v zs) (k : Kp S w w') (hS : ∀ i, S i → i < N) : OwB1 N w' v zs :=
  ownsRow_same h (fun g hg => by obtain ⟨hb, o, ho, -⟩ := row_cells h hg; exact k.heap (Array.getElem?_eq_some_iff.1 ho).1 (fun h => by have := hS g h; omega))
set_option maxRecDepth 100000 in
set_option maxHeartbeats 400000 in
theorem takew_on (B : Nat) (zs : List Int) (e : Int) (n : Nat) (w : World) {S : Nat → Prop} (hS : ∀ i, Jb B i → S i) (h : EyeOn S w B zs e) (hn : n ≤ zs.length) (hbig : zs.length ≤ 140737488355328) :
    Calls Tryz.prog 109 #[.pointer (some ⟨B, 0, none⟩), .int .i64 n] w fun r w' => (∃ v', r = .returned v' ∧ OwB1 w.heap.size w' v' (zs.take n)) ∧ EyeOn S w' B (zs.drop n) e ∧ Kp (Jb B) w w' := by
  have HS := hid hS
  clear hS
  have hlt := h.lt
  obtain ⟨v, hb, hv⟩ := h
  have c0 := hb.cell 0
  simp only [List.getElem?_cons_zero] at c0
  obtain ⟨x1, d1, t1, b1⟩ := hv.cutH n hn
  obtain ⟨x2, d2, t2, b2⟩ := hv.cutL n hn
  have HB := hid hb
  have H1 := hid b1
  have H2 := hid b2
  have hl : (zs.take n).length ≤ 140737488355328 := by rw [List.length_take]; omega
  have HL := hid hl
  have HLT := hid hlt
  clear hb hv b1 b2 hl hbig hlt hn
  go_enter Tryz.func109, Tryz.ntmps109
  go_wp2_with fail
  refine (clone_any _ (zs.take n) _ H1.out HL.out).mono ?_
  rintro r w1 ⟨v', rfl, ho, k1⟩
  obtain ⟨xo, co, rfl⟩ := own_slice ho
  have hb1 := HB.out.kept k1 (fun h => h)
  have c1 := hb1.cell 0
  simp only [List.getElem?_cons_zero] at c1
  have f1 := hb1.frozen 0
  have HB1 := hid hb1
  have hv1 : OwB1 w.heap.size w1 (.slice xo (zs.take n).length co) (zs.take n) := ho
  rw [List.length_take] at hv1
  have HV1 := hid hv1
  clear hv1
  have HV2 := hid (H2.out.kept (S' := Nb) k1 (fun _ h => absurd h (fun h => h)))
  have K1 := hid (k1.mono (S' := Jb B) (fun _ _ h => absurd h (fun h => h)))
  clear ho k1 hb1 c0
  go_wp2
  go_ret
  refine ⟨⟨_, rfl, ?_⟩, ⟨_, HB1.out.set 0 _, ?_⟩, K1.out.set 0 _⟩
  · exact HV1.out.kept ((Kp.refl (Jb B) _).set 0 _) (fun i h => by have h' : i = B := h; have := HLT.out; omega)
  · exact HV2.out.kept ((Kp.refl (Jb B) _).set 0 _) HS.out
set_option maxRecDepth 100000 in
set_option maxHeartbeats 400000 in
theorem fixedw_on (B : Nat) (zs : List Int) (e n : Int) (w : World) {S : Nat → Prop} (hS : ∀ i, Jb B i → S i) (h : EyeOn S w B zs e) (hbig : zs.length ≤ 140737488355328) :
    Calls Tryz.prog 94 #[.pointer (some ⟨B, 0, none⟩), .int .i64 n] w fun r w' => (∃ v', r = .returned v' ∧ OwB1 w.heap.size w' v' (fixN zs e n).1) ∧ EyeOn S w' B (fixN zs e n).2.1 (fixN zs e n).2.2 ∧ Kp (Jb B) w w' := by
  have HS := hid hS
  clear hS
  have H := hid h
  obtain ⟨v, hb, hv⟩ := h
  have c0 := hb.cell 0
  simp only [List.getElem?_cons_zero] at c0
  obtain ⟨x, c, rfl⟩ : ∃ x c, v = .slice x zs.length c := by
    rcases hv.2 with ⟨⟨a, c, rfl⟩, rfl⟩ | ⟨blk, off, cap, rfl, -⟩
    · exact ⟨a, c, rfl⟩
    · exact ⟨_, _, rfl⟩
  clear hb hv
  obtain ⟨R, hR⟩ : ∃ R, R = fixN zs e n := ⟨_, rfl⟩
  rw [← hR]
  have HR := hid hR
  clear hR
  unfold fixN at HR
  have HBIG := hid hbig
  clear hbig
  by_cases he : e = 0
  · subst he
    have HR2 := HR.out.trans (if_neg (fun h => h rfl))
    by_cases hn : n < 0
    · rw [if_pos hn] at HR2
      subst HR2
      clear HR
      go_enter Tryz.func94, Tryz.ntmps94
      go_wp2_with fail
      refine (err_on B zs 0 _ HS.out H.out).mono ?_
      rintro r w1 ⟨rfl, rfl⟩
      go_wp2_with fail
      refine (fail_on B zs 0 2 _ HS.out H.out).mono ?_
      rintro r w2 ⟨rfl, h2, k2⟩
      have H2 := hid h2
      have K2 := hid k2
      clear h2 k2
      go_wp2
      go_ret
      exact ⟨⟨_, rfl, World.ownsRow_nil _ _ _ _⟩, H2.out, K2.out⟩
    · rw [if_neg hn] at HR2
      by_cases hl : (zs.length : Int) < n
      · rw [if_pos hl] at HR2
        subst HR2
        clear HR
        go_enter Tryz.func94, Tryz.ntmps94
        go_wp2_with fail
        refine (err_on B zs 0 _ HS.out H.out).mono ?_
        rintro r w1 ⟨rfl, rfl⟩
        go_wp2_with fail
        refine (fail_on B zs 0 10 _ HS.out H.out).mono ?_
        rintro r w2 ⟨rfl, h2, k2⟩
        have H2 := hid h2
        have K2 := hid k2
        clear h2 k2
        go_wp2
        go_ret
        exact ⟨⟨_, rfl, World.ownsRow_nil _ _ _ _⟩, H2.out, K2.out⟩
      · rw [if_neg hl] at HR2
        subst HR2
        clear HR
        obtain ⟨m, rfl⟩ := Int.eq_ofNat_of_zero_le (show 0 ≤ n by omega)
        rw [Int.toNat_natCast]
        go_enter Tryz.func94, Tryz.ntmps94
        go_wp2_with fail
        refine (err_on B zs 0 _ HS.out H.out).mono ?_
        rintro r w1 ⟨rfl, rfl⟩
        go_wp2_with fail
        refine (takew_on B zs 0 m _ HS.out H.out (by omega) HBIG.out).mono ?_
        rintro r w2 ⟨⟨v', rfl, h3⟩, h2, k2⟩
        have H2 := hid h2
        have H3 := hid h3
        have K2 := hid k2
        clear h2 k2 h3
        go_wp2
        go_ret
        exact ⟨⟨_, rfl, H3.out⟩, H2.out, K2.out⟩
  · have HR2 := HR.out.trans (if_pos he)
    subst HR2
    clear HR
    have g1 : (e != 0) = true := by rw [bne_iff_ne]; exact he
    clear he
    go_enter Tryz.func94, Tryz.ntmps94
    go_wp2_with fail
    refine (err_on B zs e _ HS.out H.out).mono ?_
    rintro r w1 ⟨rfl, rfl⟩
    go_wp2
    go_ret
    exact ⟨⟨_, rfl, World.ownsRow_nil _ _ _ _⟩, H.out, Kp.refl _ _⟩
set_option maxRecDepth 100000 in
set_option maxHeartbeats 800000 in
theorem textw_on (B : Nat) (zs : List Int) (e most : Int) (w : World) {S : Nat → Prop} (hS : ∀ i, Jb B i → S i) (h : EyeOn S w B zs e) (hbig : zs.length ≤ 140737488355328) (hm0 : -9223372036854775808 ≤ most) (hm1 : most < 9223372036854775808) :
    Calls Tryz.prog 63 #[.pointer (some ⟨B, 0, none⟩), .int .i64 most] w fun r w' => (∃ v', r = .returned v' ∧ OwB1 w.heap.size w' v' (textN zs e most).1) ∧ EyeOn S w' B (textN zs e most).2.1 (textN zs e most).2.2 ∧ Kp (Jb B) w w' := by
  have HS := hid hS
  clear hS
  have hrng : 0 ≤ (readN zs e 18446744073709551615).1 ∧ (readN zs e 18446744073709551615).1 < 18446744073709551616 := by
    obtain ⟨v, _, hv⟩ := h
    exact readN_range zs e _ hv.1
  have hleft := readN_left zs e 18446744073709551615
  have H := hid h
  obtain ⟨R, hR⟩ : ∃ R, R = textN zs e most := ⟨_, rfl⟩
  rw [← hR]
  have HR := hid hR
  clear hR h
  unfold textN at HR
  go_enter Tryz.func63, Tryz.ntmps63
  go_wp2_with fail
  refine (number_on B zs e _ _ HS.out H.out).mono ?_
  rintro r w1 ⟨rfl, h1, k1⟩
  obtain ⟨⟨U, L, E⟩, hF⟩ : ∃ F, F = readN zs e 18446744073709551615 := ⟨_, rfl⟩
  rw [← hF] at HR hrng hleft h1 ⊢
  clear hF
  simp only at HR hrng hleft h1
  have HLE := hid (Nat.le_trans hleft hbig)
  have H1 := hid h1
  have K1 := hid k1
  clear h1 k1 hleft hbig
  go_wp2_with fail
  refine (err_on B L E _ HS.out H1.out).mono ?_
  rintro r w2 ⟨rfl, rfl⟩
  by_cases hE : E = 0
  · subst hE
    have HR2 := HR.out.trans (if_neg (fun h => h rfl))
    clear HR
    by_cases hm : most < 0 ∨ most < U
    · rw [if_pos hm] at HR2
      subst HR2
      by_cases hm2 : most < 0
      · go_wp2_with fail
        refine (fail_on B L 0 12 _ HS.out H1.out).mono ?_
        rintro r w3 ⟨rfl, h2, k2⟩
        have H2 := hid h2
        have K2 := hid (K1.out.trans k2 (fun _ _ h => h))
        clear h2 k2
        go_wp2
        go_ret
        exact ⟨⟨_, rfl, World.ownsRow_nil _ _ _ _⟩, H2.out, K2.out⟩
      · have hm3 : most < U := hm.resolve_left hm2
        have hm4 : 0 ≤ most := by omega
        have hw : IntKind.u64.wrap most = most := IntWalk.u64_in _ (by omega)
        clear hm hm2
        go_wp2_with fail
        refine (fail_on B L 0 12 _ HS.out H1.out).mono ?_
        rintro r w3 ⟨rfl, h2, k2⟩
        have H2 := hid h2
        have K2 := hid (K1.out.trans k2 (fun _ _ h => h))
        clear h2 k2
        go_wp2
        go_ret
        exact ⟨⟨_, rfl, World.ownsRow_nil _ _ _ _⟩, H2.out, K2.out⟩
    · rw [if_neg hm] at HR2
      subst HR2
      have hm4 : 0 ≤ most := by omega
      have hm5 : ¬ most < U := by omega
      have hm6 : U ≤ most := by omega
      have hw : IntKind.u64.wrap most = most := IntWalk.u64_in _ (by omega)
      have hw2 : wrap64 U = U := by unfold wrap64; omega
      clear hm
      go_wp2_with fail
      refine (fixedw_on B L 0 U _ HS.out H1.out HLE.out).mono ?_
      rintro r w3 ⟨⟨v', rfl, h3⟩, h2, k2⟩
      have H2 := hid h2
      have H3 := hid (ownsRow_le h3 K1.out.size)
      have K2 := hid (K1.out.trans k2 (fun _ _ h => h))
      clear h2 k2 h3
      go_wp2
      go_ret
      exact ⟨⟨_, rfl, H3.out⟩, H2.out, K2.out⟩
  · have HR2 := HR.out.trans (if_pos hE)
    subst HR2
    clear HR
    have g1 : (E != 0) = true := by rw [bne_iff_ne]; exact hE
    clear hE
    go_wp2
    go_ret
    exact ⟨⟨_, rfl, World.ownsRow_nil _ _ _ _⟩, H1.out, K1.out⟩
end

end Go.Proofs.YtogoophofgkboaaGreatDoor
