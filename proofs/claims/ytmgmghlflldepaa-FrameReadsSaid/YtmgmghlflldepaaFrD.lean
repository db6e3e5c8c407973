/-
  Layer 19: frames: the walk of next: which frame stands at the beginning of bytes. Conditions: bytes; fewer than 2^46 of them.
-/
import Derived.Test.YtmgmghlflldepaaFrC
import Derived.Test.YtmgmghlflldepaaOrdKit
import Derived.Test.YtmgmghlflldepaaPenT
namespace Go.Proofs.Ytmgmghlflldepaa
open Go.RowKit

def nx1 (s : List Int × Int) (x : Int) : List Int × Int := if x = 71 then s else (failS s.1 s.2 11, failE s.2 11)
def nxA (c : List Int) : List Int × Int := (fixN c 0 1).1.foldl nx1 (fixN c 0 1).2
def nxK (c : List Int) : Int × List Int × Int := readN (nxA c).1 (nxA c).2 14
def nxB (c : List Int) : List Int × Int := if (nxK c).1 = 0 then (failS (nxK c).2.1 (nxK c).2.2 11, failE (nxK c).2.2 11) else (nxK c).2
def nxT (c : List Int) : List Int × List Int × Int := textN (nxB c).1 (nxB c).2 2048
def nxH (c : List Int) : List Int := c.take (c.length - (nxT c).2.1.length)
def nxF (c : List Int) : List Int × List Int × Int := fixN (nxT c).2.1 (nxT c).2.2 8
def nxE (c : List Int) : Int := if (nxF c).2.2 = 0 ∧ (nxF c).1 ≠ sumF (nxH c) then 14 else (nxF c).2.2
/-- The frame at the beginning, how many bytes it has, the error. -/
def nextF (zs : List Int) : Int × List Int × Int × Int := if nxE (zs.take 2061) = 0 then ((nxK (zs.take 2061)).1, (nxT (zs.take 2061)).1, ((nxH (zs.take 2061)).length : Int) + 8, 0) else (0, [], 0, nxE (zs.take 2061))

theorem failS_le (zs : List Int) (e f : Int) : (failS zs e f).length ≤ zs.length := by unfold failS; split <;> simp
theorem readN_le (zs : List Int) (e most : Int) : (readN zs e most).2.1.length ≤ zs.length := by
  unfold readN
  split
  · exact Nat.le_refl _
  · split
    · simp
    · split
      · simp
      · simp
theorem fixN_le' (zs : List Int) (e n : Int) : (fixN zs e n).2.1.length ≤ zs.length := by
  unfold fixN
  split
  · exact Nat.le_refl _
  · split
    · simp
    · split
      · simp
      · simp
theorem textN_le (zs : List Int) (e most : Int) : (textN zs e most).2.1.length ≤ zs.length := by
  have h := readN_le zs e 18446744073709551615
  unfold textN
  split
  · exact h
  · split
    · simp
    · exact Nat.le_trans (fixN_le' _ _ _) h
theorem nx1_le (s : List Int × Int) (x : Int) : (nx1 s x).1.length ≤ s.1.length := by unfold nx1; split; exact Nat.le_refl _; exact failS_le _ _ _
theorem nxs_le : ∀ (l : List Int) (s : List Int × Int), (l.foldl nx1 s).1.length ≤ s.1.length
  | [], _ => Nat.le_refl _
  | x :: r, s => Nat.le_trans (nxs_le r (nx1 s x)) (nx1_le s x)
theorem nxB_le (c : List Int) : (nxB c).1.length ≤ c.length := by
  have h1 : (nxA c).1.length ≤ c.length := Nat.le_trans (nxs_le _ _) (fixN_le' _ _ _)
  have h2 : (nxK c).2.1.length ≤ c.length := Nat.le_trans (readN_le _ _ _) h1
  unfold nxB
  split
  · exact Nat.le_trans (failS_le _ _ _) h2
  · exact h2
theorem nxT_le (c : List Int) : (nxT c).2.1.length ≤ c.length := Nat.le_trans (textN_le _ _ _) (nxB_le c)
theorem firstOf_pos (zs : List Int) (hz : IsBytes zs) : 0 ≤ (firstOf zs).1 := by
  unfold firstOf
  split
  · simp
  · split
    · exact (hz 0).1
    · split
      · simp
      · split
        · exact (beTo_range _ _).1
        · simp
theorem readN_rng (zs : List Int) (e most : Int) (hm : 0 ≤ most) (hz : IsBytes zs) : 0 ≤ (readN zs e most).1 ∧ (readN zs e most).1 ≤ most := by
  unfold readN
  split
  · exact ⟨Int.le_refl _, hm⟩
  · split
    · exact ⟨Int.le_refl _, hm⟩
    · split
      · exact ⟨Int.le_refl _, hm⟩
      · exact ⟨firstOf_pos zs hz, by omega⟩
theorem results_ctt {P : Program} {w : World} {fn : Func} {s a b : Tmp} {T : TypeId} (h : fn.results = #[.cell s T, .tmp a, .tmp b]) (tmps : Array Value) (B : Nat) (ht : tmps.getD s undef = .pointer (some ⟨B, 0, none⟩)) (v : Value) (hl : (loadVar T ⟨B, 0, none⟩).run P w = .ok v w) :
    (results fn tmps).run P w = .ok (.tuple #[v, tmps.getD a undef, tmps.getD b undef]) w := by
  simp only [Array.getD_eq_getD_getElem?] at ht
  simp [results, h, ht, hl, asAddr]
theorem results_ct {P : Program} {w : World} {fn : Func} {s a : Tmp} {T : TypeId} (h : fn.results = #[.cell s T, .tmp a]) (tmps : Array Value) (B : Nat) (ht : tmps.getD s undef = .pointer (some ⟨B, 0, none⟩)) (v : Value) (hl : (loadVar T ⟨B, 0, none⟩).run P w = .ok v w) :
    (results fn tmps).run P w = .ok (.tuple #[v, tmps.getD a undef]) w := by
  simp only [Array.getD_eq_getD_getElem?] at ht
  simp [results, h, ht, hl, asAddr]
theorem frL_one (k : Int) (v : Value) (h : v.oneCell' = true := by rfl) : ∀ u ∈ frL k v, u.oneCell' = true := fun u hu => by
  rcases List.mem_cons.1 hu with rfl | hu
  · rfl
  · rw [List.mem_singleton.1 hu]; exact h
theorem fr_loadVar {w : World} {B T : Nat} {k : Int} {v : Value} (h : Blk w B T (frL k v)) : (loadVar 24 ⟨B, 0, none⟩).run Try.prog w = .ok (frV k v) w := by
  obtain ⟨d, h1, h2⟩ := fr_under
  exact row_loadVar h1 h2 (fr_infoL k v) h 0 (fun j _ => by rw [Nat.zero_add])
theorem by_beside {S : Nat → Prop} {w w' : World} {R T : Nat} {v x0 x1 : Value} {zs : List Int} (h : BySl S w v zs) (g : Blk w R T [x0, x1]) (h0 : ∀ z, x0 ≠ .int .u8 z) (h1 : ∀ z, x1 ≠ .int .u8 z) (k : Kp (Jb R) w w') : BySl S w' v zs := by
  refine ⟨h.1, ?_⟩
  rcases h.2 with h2 | ⟨blk, off, cap, rfl, hc, hm, hb, hn⟩
  · exact .inl h2
  · refine .inr ⟨blk, off, cap, rfl, hc, hm, fun i hi => k.cell (hb i hi) (fun e => ?_), hn⟩
    have e' : blk = R := e
    have hcell := hb i hi
    rw [e', g.cell] at hcell
    obtain ⟨n, hn'⟩ : ∃ n, off + i = n := ⟨_, rfl⟩
    rw [hn'] at hcell
    rcases n with _ | _ | q
    · exact h0 _ (by simpa using hcell)
    · exact h1 _ (by simpa using hcell)
    · simp at hcell
theorem eye_beside {w w' : World} {E R T : Nat} {x0 x1 : Value} {zs : List Int} {e : Int} (h : EyeAt w E zs e) (g : Blk w R T [x0, x1]) (h0 : ∀ z, x0 ≠ .int .u8 z) (h1 : ∀ z, x1 ≠ .int .u8 z) (hne : E ≠ R) (k : Kp (Jb R) w w') : EyeAt w' E zs e := by
  obtain ⟨v, hb, hv⟩ := h
  exact ⟨v, hb.kept k hne, by_beside hv g h0 h1 k⟩
theorem next_ok {zs c : List Int} (hc : zs.take 2061 = c) (hE : nxE c = 0) : nextF zs = ((nxK c).1, (nxT c).1, ((nxH c).length : Int) + 8, 0) := by unfold nextF; rw [hc, if_pos hE]
theorem next_err {zs c : List Int} {e : Int} (hc : zs.take 2061 = c) (hE : nxE c = e) (he : e ≠ 0) : nextF zs = (0, [], 0, e) := by unfold nextF; rw [hc, hE, if_neg he]
set_option maxHeartbeats 400000 in
theorem fequal_any {S1 S2 : Nat → Prop} (u v : Value) (xs ys : List Int) (w : World) (hu : BySl S1 w u xs) (hv : BySl S2 w v ys) :
    Calls Try.prog 45 #[u, v] w fun e w' => e = .returned (.bool (decide (xs = ys))) ∧ w = w' := by
  have e1 := conv_any hu
  have e2 := conv_any hv
  have hb := st_beq xs ys hu.1 hv.1
  obtain ⟨d, hd⟩ : ∃ d, decide (xs = ys) = d := ⟨_, rfl⟩
  rw [hd] at hb ⊢
  obtain ⟨sx, hsx⟩ : ∃ s, st xs = s := ⟨_, rfl⟩
  obtain ⟨sy, hsy⟩ : ∃ s, st ys = s := ⟨_, rfl⟩
  rw [hsx, hsy] at hb
  rw [hsx] at e1
  rw [hsy] at e2
  clear hu hv hd hsx hsy
  go_enter Try.func45, Try.ntmps45
  go_wp2
  go_ret
  exact ⟨rfl, rfl⟩
def NxR (E : Nat) (f : List Int) (s0 : List Int × Int) (w3 : World) (i : Value) (wr : World) : Prop := ∃ j : Nat, j ≤ f.length ∧ i = .int .i64 j ∧ Hid (EyeAt wr E ((f.take j).foldl nx1 s0).1 ((f.take j).foldl nx1 s0).2) ∧ Hid (Kp (Jb E) w3 wr)
theorem nx_snoc (f : List Int) (s0 : List Int × Int) (j : Nat) (h : j < f.length) : (f.take (j + 1)).foldl nx1 s0 = nx1 ((f.take j).foldl nx1 s0) (f[j]?.getD 0) := by
  rw [List.take_succ_eq_append_getElem h, List.foldl_append, List.getElem?_eq_getElem h]
  rfl

set_option maxRecDepth 100000 in
set_option maxHeartbeats 8000000 in
theorem fnext_any (v : Value) (zs : List Int) (w : World) (hv : BySl Nb w v zs) (hbig : zs.length ≤ 70368744177664) :
    Calls Try.prog 23 #[v] w fun e w' => ∃ b, e = .returned (.tuple #[frV (nextF zs).1 b, .int .i64 (nextF zs).2.2.1, .int .i64 (nextF zs).2.2.2]) ∧ (BySl Nb w' b (nextF zs).2.1 ∧ T8 w' b) ∧ Kp Nb w w' := by
  obtain ⟨y, d, rfl⟩ := hv.shp
  obtain ⟨c, hc⟩ : ∃ c, zs.take 2061 = c := ⟨_, rfl⟩
  have HC := hid hc
  obtain ⟨m, hm⟩ : ∃ m, min zs.length 2061 = m := ⟨_, rfl⟩
  have hcl : c.length = m := by rw [← hc, List.length_take]; omega
  have HCL := hid hcl
  have hmL : m ≤ zs.length := by omega
  have ht : zs.take m = c := by
    rw [← hc, ← hm]
    rcases Nat.le_total zs.length 2061 with h | h
    · rw [Nat.min_eq_left h, List.take_of_length_le (Nat.le_refl _), List.take_of_length_le h]
    · rw [Nat.min_eq_right h]
  have HM := hid (show m ≤ 2061 by omega)
  obtain ⟨xh, dh, VH, RH⟩ := hv.cutH m hmL
  rw [ht] at RH
  have BH := hid RH
  have eM : min ((zs.length : Nat) : Int) 2061 = (m : Int) := by omega
  obtain ⟨L, hL⟩ : ∃ L, zs.length = L := ⟨_, rfl⟩
  rw [hL] at VH eM hbig ⊢
  have CC : Hid (∀ w, Calls Try.prog 15 #[.int .i64 2048] w fun e w' => e = .returned (.int .i64 2061) ∧ w = w') := hid (fun w => fcost_any 2048 w)
  obtain ⟨R0, hR0⟩ : ∃ N, N = w.heap.size := ⟨_, rfl⟩
  obtain ⟨W, hW⟩ : ∃ W, W = w.alloc (.cells (frL 0 (.slice none 0 0)).toArray 24) := ⟨_, rfl⟩
  have HR0 : Hid (Blk W R0 24 (frL 0 (.slice none 0 0))) := hid (by rw [hW, hR0]; exact Blk.new _ _ _)
  have K0 : Hid (Kp Nb w W) := hid (by rw [hW]; exact (Kp.refl Nb w).alloc _)
  have LR0 : Hid (w.heap.size ≤ R0) := hid (Nat.le_of_eq hR0.symm)
  have BH0 := hid (BH.out.kept K0.out (fun _ h => h))
  clear hv hc hm hcl hmL ht RH BH hL
  go_enter Try.func23, Try.ntmps23
  go_upto_region 1 with fail
  rw [show w.alloc (.cells #[.int .i64 0, .slice none 0 0] 24) = W from hW.symm, ← hR0]
  clear hW hR0
  go_wp2_with fail
  refine (CC.out _).mono ?_
  rintro e w1 ⟨rfl, rfl⟩
  go_wp2_with fail
  refine (read_any (S := Nb) _ c _ BH0.out (by rw [HCL.out]; have := HM.out; omega)).mono ?_
  rintro e w2 ⟨E, hE, rfl, e2, k2⟩
  have E2 := hid e2
  have LWW : Hid (w.heap.size ≤ W.heap.size) := hid K0.out.size
  have LE : Hid (W.heap.size ≤ E ∧ R0 < E) := hid ⟨hE, by have := HR0.out.lt; omega⟩
  have HR2 := hid (HR0.out.kept k2 (fun h => h))
  have BH2 := hid (BH0.out.kept k2 (fun _ h => h))
  have K2 := hid (K0.out.trans k2 (fun _ _ h => h))
  have BJ2 : Hid (BySl (Jb E) w2 (.slice xh m dh) c) := hid (by_old BH0.out k2 (fun i hi h => by have h' : i = E := h; omega))
  clear e2 k2 hE HR0 VH BH0 K0 eM hbig BH2
  go_wp2_with fail
  refine (fixed_any E c 0 1 _ E2.out (by rw [HCL.out]; have := HM.out; omega)).mono ?_
  rintro e w3 ⟨⟨v1, rfl, b1⟩, e3, k3⟩
  obtain ⟨f, hf⟩ : ∃ f, (fixN c 0 1).1 = f := ⟨_, rfl⟩
  obtain ⟨s0, hs0⟩ : ∃ s, (fixN c 0 1).2 = s := ⟨_, rfl⟩
  rw [hf] at b1
  rw [hs0] at e3
  have HA : Hid (nxA c = f.foldl nx1 s0) := hid (by unfold nxA; rw [hf, hs0])
  have B3 := hid b1
  have E3 := hid e3
  have BJ3 := hid (BJ2.out.kept k3 (fun _ h => h))
  have KE3 := hid k3
  obtain ⟨y1, d1, rfl⟩ := b1.shp
  clear b1 e3 k3 hf hs0 E2 BJ2
  go_wp2
  go_loopw [22] (NxR E f s0 w3) (fun i _ => f.length - (intOf i).toNat)
  case atStart => exact ⟨0, Nat.zero_le _, rfl, E3, hid (Kp.refl _ _)⟩
  case round =>
    clear E3
    obtain ⟨j, hj, rfl, HE, HK⟩ := hrel
    by_cases hlt : j < f.length
    · have hB := B3.out.kept HK.out (fun _ h => h)
      have HQ := hid (nx_snoc f s0 j hlt)
      rcases hB.2 with ⟨_, e0⟩ | ⟨blk, off, cap, e1, hc, hm, hcell, _⟩
      · rw [e0] at hlt
        exact absurd hlt (Nat.not_lt_zero _)
      · injection e1 with e1 e7 e2
        subst e1 e2
        clear e7
        have c1 := hcell j hlt
        obtain ⟨x, hx⟩ : ∃ x, f[j]?.getD 0 = x := ⟨_, rfl⟩
        rw [hx] at c1 HQ
        unfold maxLen at hm
        obtain ⟨s, hs⟩ : ∃ s, (f.take j).foldl nx1 s0 = s := ⟨_, rfl⟩
        rw [hs] at HE HQ
        clear hcell hB hs hx
        by_cases h71 : x = 71
        · have RE : Hid (NxR E f s0 w3 (.int .i64 ((j : Int) + 1)) wr) := hid ⟨j + 1, by omega, by go_num, hid (by rw [HQ.out]; unfold nx1; rw [if_pos h71]; exact HE.out), HK⟩
          have d7 : (x == 71) = true := by simpa using h71
          clear h71
          go_wp2
          go_roundw
          case rel => exact RE.out
          case measure => simp [intOf]; omega
        · have d7 : (x == 71) = false := by simpa using h71
          have HN : Hid (¬ x = 71) := hid h71
          clear h71
          go_wp2_with fail
          refine (fail_any E s.1 s.2 11 wr HE.out).mono ?_
          rintro e wk ⟨rfl, ek, kk⟩
          have RE : Hid (NxR E f s0 w3 (.int .i64 ((j : Int) + 1)) wk) := hid ⟨j + 1, by omega, by go_num, hid (by rw [HQ.out]; unfold nx1; rw [if_neg HN.out]; exact ek), hid (HK.out.trans kk (fun _ _ h => h))⟩
          clear ek kk
          go_wp2
          go_roundw
          case rel => exact RE.out
          case measure => simp [intOf]; omega
    · obtain rfl : j = f.length := by omega
      have he := HE.out
      rw [List.take_length, ← HA.out] at he
      have BJ4 := hid (BJ3.out.kept HK.out (fun _ h => h))
      have KE4 := hid (KE3.out.trans HK.out (fun _ _ h => h))
      have HKd : Hid (nxK c = readN (nxA c).1 (nxA c).2 14) := hid rfl
      obtain ⟨a, ha⟩ : ∃ a, nxA c = a := ⟨_, rfl⟩
      rw [ha] at he HKd
      have E4 := hid he
      have HRN := hid (readN_rng a.1 a.2 14 (by decide) (by obtain ⟨v, _, hb⟩ := he; exact hb.1))
      obtain ⟨K, hK⟩ : ∃ K, readN a.1 a.2 14 = K := ⟨_, rfl⟩
      rw [hK] at HRN HKd
      have HRK := hid hK
      clear he HE HK BJ3 KE3 HA ha hK hj hlt
      go_wp2_with fail
      refine (number_any E a.1 a.2 14 _ E4.out).mono ?_
      rintro e w5 ⟨rfl, e5, k5⟩
      rw [HRK.out] at e5 ⊢
      obtain ⟨k, r2, e2⟩ := K
      dsimp only at e5 HRN ⊢
      have E5 := hid e5
      have BJ5 := hid (BJ4.out.kept k5 (fun _ h => h))
      have KE5 := hid (KE4.out.trans k5 (fun _ _ h => h))
      have hk0 := HRN.out
      have hwk : IntKind.i64.wrap k = k := by rw [IntKind.wrap_i64]; omega
      clear e5 k5 E4 BJ4 KE4
      have KN5 := hid (K2.out.trans KE5.out (fun i hi h => by have h' : i = E := h; have := LE.out; have := LWW.out; omega))
      have HR5 := hid (HR2.out.kept KE5.out (fun h => by have h' : R0 = E := h; have := LE.out; omega))
      obtain ⟨R8, hR8⟩ : ∃ N, N = w5.heap.size := ⟨_, rfl⟩
      obtain ⟨W6, hW6⟩ : ∃ W, W = w5.alloc (.cells (frL k (.slice none 0 0)).toArray 24) := ⟨_, rfl⟩
      have k6 : Kp Nb w5 W6 := by rw [hW6]; exact (Kp.refl Nb w5).alloc _
      have H86 : Hid (Blk W6 R8 24 (frL k (.slice none 0 0))) := hid (by rw [hW6, hR8]; exact Blk.new _ _ _)
      have LR8 : Hid (E < R8 ∧ R0 < R8 ∧ w.heap.size ≤ R8) := hid (by rw [hR8]; exact ⟨E5.out.lt, HR5.out.lt, KN5.out.size⟩)
      have E6 := hid (E5.out.kept k6 (fun _ _ h => h))
      have BJ6 := hid (BJ5.out.kept k6 (fun _ h => h.elim))
      have HR6 := hid (HR5.out.kept k6 (fun h => h))
      have KN6 := hid (KN5.out.trans k6 (fun _ _ h => h))
      have b0 := H86.out.cell 0
      simp only [List.getElem?_cons_zero] at b0
      clear k6 E5 BJ5 HR5 KN5 KE5 HR2
      go_upto_region 10 with fail
      rw [show w5.alloc (.cells #[.int .i64 k, .slice none 0 0] 24) = W6 from hW6.symm, ← hR8]
      clear hW6 hR8
      by_cases hk9 : k = 0
      · have d9 : (k == 0) = true := by simpa using hk9
        have HBd : Hid (nxB c = (failS r2 e2 11, failE e2 11)) := hid (by unfold nxB; rw [HKd.out]; dsimp only; rw [if_pos hk9])
        clear hk9
        go_wp2_with fail
        refine (fail_any E r2 e2 11 _ E6.out).mono ?_
        rintro e wf ⟨rfl, ef, kf⟩
        obtain ⟨b, hb⟩ : ∃ b : List Int × Int, (failS r2 e2 11, failE e2 11) = b := ⟨_, rfl⟩
        have EB : Hid (EyeAt wf E b.1 b.2) := hid (by rw [← hb]; exact ef)
        rw [hb] at HBd
        replace BJ6 := hid (BJ6.out.kept kf (fun _ h => h))
        replace HR6 := hid (HR6.out.kept kf (fun h => by have h' : R0 = E := h; have := LE.out; omega))
        replace H86 := hid (H86.out.kept kf (fun h => by have h' : R8 = E := h; have := LR8.out; omega))
        replace KN6 := hid (KN6.out.trans kf (fun i hi h => by have h' : i = E := h; have := LE.out; have := LWW.out; omega))
        clear hb ef kf b0 E6
        have NBL : Hid (b.1.length ≤ 2061) := hid (by have h := nxB_le c; rw [HBd.out] at h; have := HCL.out; have := HM.out; omega)
        go_wp2_with fail
        refine (text_t E b.1 b.2 2048 _ EB.out (by have := NBL.out; omega) (by decide) (by decide)).mono ?_
        rintro e w7 ⟨⟨v2, rfl, b7, t87⟩, e7, k7⟩
        try clear b0
        have HTd : Hid (nxT c = textN b.1 b.2 2048) := hid (by unfold nxT; rw [HBd.out])
        have HTl := hid (nxT_le c)
        obtain ⟨T, hT⟩ : ∃ T, textN b.1 b.2 2048 = T := ⟨_, rfl⟩
        rw [hT] at HTd b7 e7
        rw [HTd.out] at HTl
        obtain ⟨tb, t2, t3⟩ := T
        dsimp only at b7 e7 HTl
        have E7 := hid e7
        have B7 := hid b7
        have BJ7 := hid (BJ6.out.kept k7 (fun _ h => h))
        have HR7 := hid (HR6.out.kept k7 (fun h => by have h' : R0 = E := h; have := LE.out; omega))
        have H87 := hid (H86.out.kept k7 (fun h => by have h' : R8 = E := h; have := LR8.out; omega))
        have KN7 := hid (KN6.out.trans k7 (fun i hi h => by have h' : i = E := h; have := LE.out; have := LWW.out; omega))
        obtain ⟨y2, d2, rfl⟩ := b7.shp
        have f1 := H87.out.frozen 1
        have c1 := H87.out.cell 1
        simp only [List.getElem?_cons_zero, List.getElem?_cons_succ] at c1
        obtain ⟨W8, hW8⟩ : ∃ W, W = w7.setCell ⟨R8, 1, none⟩ (.slice y2 tb.length d2) := ⟨_, rfl⟩
        have kS : Kp (Jb R8) w7 W8 := by rw [hW8]; exact (Kp.refl (Jb R8) w7).setCell (p := ⟨R8, 1, none⟩) (fun _ => rfl) _
        have TY8 : Hid (T8 W8 (.slice y2 tb.length d2)) := hid (t87.kept kS (fun g hg e => by
          obtain ⟨cs, fr, h⟩ := t87 g hg
          have e' : g = R8 := e
          have h2 := H87.out
          unfold Blk at h2
          rw [e', h2] at h
          injection h with h
          injection h with _ h _
          exact absurd h (by decide)))
        have E8 : Hid (EyeAt W8 E t2 t3) := hid (eye_beside E7.out H87.out (by intro z; simp) (by intro z; simp) (by have := LR8.out; omega) kS)
        have B8 : Hid (BySl (Jb E) W8 (.slice y2 tb.length d2) tb) := hid (by_beside B7.out H87.out (by intro z; simp) (by intro z; simp) kS)
        have BJ8 : Hid (BySl (Jb E) W8 (.slice xh m dh) c) := hid (by_beside BJ7.out H87.out (by intro z; simp) (by intro z; simp) kS)
        have HR8 := hid (HR7.out.kept kS (fun h => by have h' : R0 = R8 := h; have := LR8.out; omega))
        have H88 : Hid (Blk W8 R8 24 (frL k (.slice y2 tb.length d2))) := hid (by rw [hW8]; exact H87.out.set 1 _)
        have KN8 := hid (KN7.out.trans kS (fun i hi h => by have h' : i = R8 := h; have := LR8.out; omega))
        clear b7 t87 e7 k7 kS hT E7 B7 BJ7 HR7 H87 KN7 EB BJ6 HR6 H86 KN6
        go_upto_region 13 with fail
        rw [show w7.setCell ⟨R8, 1, none⟩ (.slice y2 tb.length d2) = W8 from hW8.symm]
        clear hW8 f1 c1
        obtain ⟨l, hl⟩ : ∃ l, t2.length = l := ⟨_, rfl⟩
        rw [hl] at HTl
        have CLf : Hid (∀ w, EyeAt w E t2 t3 → Calls Try.prog 43 #[.pointer (some ⟨E, 0, none⟩)] w fun r w' => r = .returned (.int .i64 (l : Int)) ∧ w = w') := hid (fun w h => by rw [← hl]; exact left_any E t2 t3 w h)
        have hlm : l ≤ m := by have := HTl.out; have := HCL.out; omega
        obtain ⟨q, hq⟩ : ∃ q, m - l = q := ⟨_, rfl⟩
        have eq1 : (m : Int) - (l : Int) = (q : Int) := by omega
        have HHd : Hid (nxH c = c.take q) := hid (by unfold nxH; rw [HTd.out]; dsimp only; rw [hl, HCL.out, hq])
        obtain ⟨x9, d9, VH, BH⟩ := BJ8.out.cutH q (by have := HCL.out; omega)
        have B9 := hid BH
        have HQL : Hid ((c.take q).length = q) := hid (by rw [List.length_take]; have := HCL.out; omega)
        have hm9 := HM.out
        have HLd := hid hl
        have HQM : Hid (q ≤ 2061) := hid (by have := HM.out; omega)
        clear hl hq BH
        go_wp2_with fail
        refine (CLf.out _ E8.out).mono ?_
        rintro e w9 ⟨rfl, rfl⟩
        go_wp2_with fail
        refine (fixed_any E t2 t3 8 _ E8.out (by have := HTl.out; have := HCL.out; have := HM.out; have := HLd.out; omega)).mono ?_
        rintro e wx ⟨⟨v3, rfl, bx⟩, ex, kx⟩
        have HFd : Hid (nxF c = fixN t2 t3 8) := hid (by unfold nxF; rw [HTd.out])
        obtain ⟨F, hF⟩ : ∃ F, fixN t2 t3 8 = F := ⟨_, rfl⟩
        rw [hF] at HFd bx ex
        obtain ⟨fb, f2, f3⟩ := F
        dsimp only at bx ex
        have Ex := hid ex
        have Bx := hid bx
        have B2x := hid (B8.out.kept kx (fun _ h => h))
        have B9x := hid (B9.out.kept kx (fun _ h => h))
        have TYx : Hid (T8 wx (.slice y2 tb.length d2)) := hid (TY8.out.kept kx (fun g hg e => by
          obtain ⟨cs, fr, h⟩ := TY8.out g hg
          obtain ⟨u, h2, _⟩ := E8.out
          have e' : g = E := e
          unfold Blk at h2
          rw [e', h2] at h
          injection h with h
          injection h with _ h _
          exact absurd h (by decide)))
        have HRx := hid (HR8.out.kept kx (fun h => by have h' : R0 = E := h; have := LE.out; omega))
        have H8x := hid (H88.out.kept kx (fun h => by have h' : R8 = E := h; have := LR8.out; omega))
        have KNx := hid (KN8.out.trans kx (fun i hi h => by have h' : i = E := h; have := LE.out; have := LWW.out; omega))
        obtain ⟨y3, d3, rfl⟩ := bx.shp
        clear bx ex kx hF E8 B8 B9 BJ8 HR8 H88 KN8 VH CLf eq1
        go_wp2_with fail
        refine (err_any E f2 f3 _ Ex.out).mono ?_
        rintro e we ⟨rfl, rfl⟩
        by_cases h30 : f3 = 0
        · have d30 : (f3 == 0) = true := by simpa using h30
          go_wp2_with fail
          refine (fsum_any _ (c.take q) _ (B9x.out.mono (fun _ h => h.elim)) (by rw [HQL.out]; have := HQM.out; omega)).mono ?_
          rintro e ws ⟨vs, rfl, os, ks⟩
          have Bs : Hid (BySl Nb ws vs (sumF (c.take q))) := hid (BySl.ofOwn (base := wx.heap.size) (by rw [show (sumF (c.take q)).length = 8 from sumK_length _ 8]; exact os) (sumK_bytes _ _) (fun _ _ _ h => h))
          have Bxs := hid (Bx.out.kept ks (fun _ h => h.elim))
          have Es := hid (Ex.out.kept ks (fun _ _ h => h))
          have B2s := hid (B2x.out.kept ks (fun _ h => h.elim))
          have TYs := hid (TYx.out.kept ks (fun _ _ h => h))
          have HRs := hid (HRx.out.kept ks (fun h => h))
          have H8s := hid (H8x.out.kept ks (fun h => h))
          have KNs := hid (KNx.out.trans ks (fun _ _ h => h))
          clear os ks Bx Ex B2x HRx H8x KNx B9x
          go_wp2_with fail
          refine (fequal_any _ _ fb (sumF (c.take q)) ws Bxs.out Bs.out).mono ?_
          rintro e wq ⟨rfl, rfl⟩
          by_cases hs9 : fb = sumF (c.take q)
          · have NE : Hid (nxE c = 0) := hid (by unfold nxE; rw [HFd.out, HHd.out]; dsimp only; rw [if_neg (fun h => h.2 hs9)]; exact h30)
            have d31 : decide (fb = sumF (c.take q)) = true := decide_eq_true hs9
            rw [d31]
            clear hs9 d31 Bxs Bs
            go_wp2_with fail
            refine (err_any E f2 f3 _ Es.out).mono ?_
            rintro e wr9 ⟨rfl, rfl⟩
            have c80 := H8s.out.cell 0
            have c81 := H8s.out.cell 1
            simp only [List.getElem?_cons_zero, List.getElem?_cons_succ] at c80 c81
            have TH := hid (HRs.out.there 0 2 (Nat.le_refl _))
            have H9 : Hid (Blk (ws.setCells R0 0 (frL k (.slice y2 tb.length d2))) R0 24 (frL k (.slice y2 tb.length d2))) := hid (row_set HRs.out rfl)
            have kR : Kp (Jb R0) ws (ws.setCells R0 0 (frL k (.slice y2 tb.length d2))) := Kp.setCells (S := Jb R0) (fun _ => show R0 = R0 from rfl) _ _ _ (Kp.refl _ ws)
            have K9 : Hid (Kp Nb w (ws.setCells R0 0 (frL k (.slice y2 tb.length d2)))) := hid (KNs.out.trans kR (fun i hi h => by have h' : i = R0 := h; have := LR0.out; omega))
            have B29 : Hid (BySl Nb (ws.setCells R0 0 (frL k (.slice y2 tb.length d2))) (.slice y2 tb.length d2) tb) := hid (by_beside (B2s.out.mono (fun _ h => h.elim)) HRs.out (by intro z; simp) (by intro z; simp) kR)
            have TY9 : Hid (T8 (ws.setCells R0 0 (frL k (.slice y2 tb.length d2))) (.slice y2 tb.length d2)) := hid (TYs.out.kept kR (fun g hg e => by
              obtain ⟨cs, fr, h⟩ := TYs.out g hg
              have e' : g = R0 := e
              have h2 := HRs.out
              unfold Blk at h2
              rw [e', h2] at h
              injection h with h
              injection h with _ h _
              exact absurd h (by decide)))
            clear kR
            have hq9 := HQM.out
            go_wp2_with (refine wpList_store_mid (by rfl) 24 (.tmp 2) (.tmp 70) (by rfl) R0 0 (frL k (.slice y2 tb.length d2)).toArray (by rfl) (by rfl) TH.out fr_info (all_oneCell_toArray (frL_one _ _)) ?_)
            refine bodyPost_ret (results_ctt rfl _ R0 (by rfl) (frV k (.slice y2 tb.length d2)) (fr_loadVar H9.out)) rfl ?_
            refine ⟨.slice y2 tb.length d2, ?_, ?_, K9.out⟩
            · rw [next_ok HC.out NE.out, HKd.out, HHd.out, HQL.out]
              rfl
            · rw [next_ok HC.out NE.out, HTd.out]
              exact ⟨B29.out, TY9.out⟩
          · have NE : Hid (nxE c = 14) := hid (by unfold nxE; rw [HFd.out, HHd.out]; dsimp only; rw [if_pos ⟨h30, hs9⟩])
            have d31 : decide (fb = sumF (c.take q)) = false := decide_eq_false hs9
            have HNZ : Hid ((14 : Int) ≠ 0) := hid (by decide)
            rw [d31]
            clear hs9 d31 Bxs Bs
            go_wp2_with fail
            refine (fail_any E f2 f3 14 _ Es.out).mono ?_
            rintro e wg ⟨rfl, eg, kg⟩
            rw [show failE f3 14 = 14 from by unfold failE; rw [if_pos ⟨h30, by decide⟩]] at eg
            have Eg := hid eg
            have HRg := hid (HRs.out.kept kg (fun h => by have h' : R0 = E := h; have := LE.out; omega))
            have KNg := hid (KNs.out.trans kg (fun i hi h => by have h' : i = E := h; have := LE.out; have := LWW.out; omega))
            clear eg kg Es B2s HRs H8s KNs
            go_wp2_with fail
            refine (err_any E _ 14 _ Eg.out).mono ?_
            rintro e wi ⟨rfl, rfl⟩
            go_wp2_with fail
            refine (err_any E _ 14 _ Eg.out).mono ?_
            rintro e wj ⟨rfl, rfl⟩
            have TH := hid (HRg.out.there 0 2 (Nat.le_refl _))
            have H9 : Hid (Blk (wg.setCells R0 0 (frL 0 (.slice none 0 0))) R0 24 (frL 0 (.slice none 0 0))) := hid (row_set HRg.out rfl)
            have K9 : Hid (Kp Nb w (wg.setCells R0 0 (frL 0 (.slice none 0 0)))) := hid (Kp.setCells (fun h => absurd h (Nat.not_lt.2 LR0.out)) _ _ _ KNg.out)
            go_wp2_with (refine wpList_store_mid (by rfl) 24 (.tmp 2) (.tmp 67) (by rfl) R0 0 (frL 0 (.slice none 0 0)).toArray (by rfl) (by rfl) TH.out fr_info (all_oneCell_toArray (frL_one _ _)) ?_)
            refine bodyPost_ret (results_ctt rfl _ R0 (by rfl) (frV 0 (.slice none 0 0)) (fr_loadVar H9.out)) rfl ?_
            refine ⟨.slice none 0 0, ?_, ?_, K9.out⟩
            · rw [next_err HC.out NE.out (by first | decide | exact HNZ.out)]
              rfl
            · rw [next_err HC.out NE.out (by first | decide | exact HNZ.out)]
              exact ⟨BySl.none _, T8.nil _⟩
        · have d30 : (f3 == 0) = false := by simpa using h30
          have NE : Hid (nxE c = f3) := hid (by unfold nxE; rw [HFd.out]; dsimp only; rw [if_neg (fun h => h30 h.1)])
          have HNZ : Hid (f3 ≠ 0) := hid h30
          go_wp2_with fail
          refine (err_any E f2 f3 _ Ex.out).mono ?_
          rintro e wi ⟨rfl, rfl⟩
          go_wp2_with fail
          refine (err_any E f2 f3 _ Ex.out).mono ?_
          rintro e wj ⟨rfl, rfl⟩
          have TH := hid (HRx.out.there 0 2 (Nat.le_refl _))
          have H9 : Hid (Blk (wx.setCells R0 0 (frL 0 (.slice none 0 0))) R0 24 (frL 0 (.slice none 0 0))) := hid (row_set HRx.out rfl)
          have K9 : Hid (Kp Nb w (wx.setCells R0 0 (frL 0 (.slice none 0 0)))) := hid (Kp.setCells (fun h => absurd h (Nat.not_lt.2 LR0.out)) _ _ _ KNx.out)
          go_wp2_with (refine wpList_store_mid (by rfl) 24 (.tmp 2) (.tmp 67) (by rfl) R0 0 (frL 0 (.slice none 0 0)).toArray (by rfl) (by rfl) TH.out fr_info (all_oneCell_toArray (frL_one _ _)) ?_)
          refine bodyPost_ret (results_ctt rfl _ R0 (by rfl) (frV 0 (.slice none 0 0)) (fr_loadVar H9.out)) rfl ?_
          refine ⟨.slice none 0 0, ?_, ?_, K9.out⟩
          · rw [next_err HC.out NE.out (by first | decide | exact HNZ.out)]
            rfl
          · rw [next_err HC.out NE.out (by first | decide | exact HNZ.out)]
            exact ⟨BySl.none _, T8.nil _⟩
      · have d9 : (k == 0) = false := by simpa using hk9
        have HBd : Hid (nxB c = (r2, e2)) := hid (by unfold nxB; rw [HKd.out]; dsimp only; rw [if_neg hk9])
        obtain ⟨b, hb⟩ : ∃ b : List Int × Int, (r2, e2) = b := ⟨_, rfl⟩
        have EB : Hid (EyeAt W6 E b.1 b.2) := hid (by rw [← hb]; exact E6.out)
        rw [hb] at HBd
        clear hk9 hb E6
        have NBL : Hid (b.1.length ≤ 2061) := hid (by have h := nxB_le c; rw [HBd.out] at h; have := HCL.out; have := HM.out; omega)
        go_wp2_with fail
        refine (text_t E b.1 b.2 2048 _ EB.out (by have := NBL.out; omega) (by decide) (by decide)).mono ?_
        rintro e w7 ⟨⟨v2, rfl, b7, t87⟩, e7, k7⟩
        try clear b0
        have HTd : Hid (nxT c = textN b.1 b.2 2048) := hid (by unfold nxT; rw [HBd.out])
        have HTl := hid (nxT_le c)
        obtain ⟨T, hT⟩ : ∃ T, textN b.1 b.2 2048 = T := ⟨_, rfl⟩
        rw [hT] at HTd b7 e7
        rw [HTd.out] at HTl
        obtain ⟨tb, t2, t3⟩ := T
        dsimp only at b7 e7 HTl
        have E7 := hid e7
        have B7 := hid b7
        have BJ7 := hid (BJ6.out.kept k7 (fun _ h => h))
        have HR7 := hid (HR6.out.kept k7 (fun h => by have h' : R0 = E := h; have := LE.out; omega))
        have H87 := hid (H86.out.kept k7 (fun h => by have h' : R8 = E := h; have := LR8.out; omega))
        have KN7 := hid (KN6.out.trans k7 (fun i hi h => by have h' : i = E := h; have := LE.out; have := LWW.out; omega))
        obtain ⟨y2, d2, rfl⟩ := b7.shp
        have f1 := H87.out.frozen 1
        have c1 := H87.out.cell 1
        simp only [List.getElem?_cons_zero, List.getElem?_cons_succ] at c1
        obtain ⟨W8, hW8⟩ : ∃ W, W = w7.setCell ⟨R8, 1, none⟩ (.slice y2 tb.length d2) := ⟨_, rfl⟩
        have kS : Kp (Jb R8) w7 W8 := by rw [hW8]; exact (Kp.refl (Jb R8) w7).setCell (p := ⟨R8, 1, none⟩) (fun _ => rfl) _
        have TY8 : Hid (T8 W8 (.slice y2 tb.length d2)) := hid (t87.kept kS (fun g hg e => by
          obtain ⟨cs, fr, h⟩ := t87 g hg
          have e' : g = R8 := e
          have h2 := H87.out
          unfold Blk at h2
          rw [e', h2] at h
          injection h with h
          injection h with _ h _
          exact absurd h (by decide)))
        have E8 : Hid (EyeAt W8 E t2 t3) := hid (eye_beside E7.out H87.out (by intro z; simp) (by intro z; simp) (by have := LR8.out; omega) kS)
        have B8 : Hid (BySl (Jb E) W8 (.slice y2 tb.length d2) tb) := hid (by_beside B7.out H87.out (by intro z; simp) (by intro z; simp) kS)
        have BJ8 : Hid (BySl (Jb E) W8 (.slice xh m dh) c) := hid (by_beside BJ7.out H87.out (by intro z; simp) (by intro z; simp) kS)
        have HR8 := hid (HR7.out.kept kS (fun h => by have h' : R0 = R8 := h; have := LR8.out; omega))
        have H88 : Hid (Blk W8 R8 24 (frL k (.slice y2 tb.length d2))) := hid (by rw [hW8]; exact H87.out.set 1 _)
        have KN8 := hid (KN7.out.trans kS (fun i hi h => by have h' : i = R8 := h; have := LR8.out; omega))
        clear b7 t87 e7 k7 kS hT E7 B7 BJ7 HR7 H87 KN7 EB BJ6 HR6 H86 KN6
        go_upto_region 13 with fail
        rw [show w7.setCell ⟨R8, 1, none⟩ (.slice y2 tb.length d2) = W8 from hW8.symm]
        clear hW8 f1 c1
        obtain ⟨l, hl⟩ : ∃ l, t2.length = l := ⟨_, rfl⟩
        rw [hl] at HTl
        have CLf : Hid (∀ w, EyeAt w E t2 t3 → Calls Try.prog 43 #[.pointer (some ⟨E, 0, none⟩)] w fun r w' => r = .returned (.int .i64 (l : Int)) ∧ w = w') := hid (fun w h => by rw [← hl]; exact left_any E t2 t3 w h)
        have hlm : l ≤ m := by have := HTl.out; have := HCL.out; omega
        obtain ⟨q, hq⟩ : ∃ q, m - l = q := ⟨_, rfl⟩
        have eq1 : (m : Int) - (l : Int) = (q : Int) := by omega
        have HHd : Hid (nxH c = c.take q) := hid (by unfold nxH; rw [HTd.out]; dsimp only; rw [hl, HCL.out, hq])
        obtain ⟨x9, d9, VH, BH⟩ := BJ8.out.cutH q (by have := HCL.out; omega)
        have B9 := hid BH
        have HQL : Hid ((c.take q).length = q) := hid (by rw [List.length_take]; have := HCL.out; omega)
        have hm9 := HM.out
        have HLd := hid hl
        have HQM : Hid (q ≤ 2061) := hid (by have := HM.out; omega)
        clear hl hq BH
        go_wp2_with fail
        refine (CLf.out _ E8.out).mono ?_
        rintro e w9 ⟨rfl, rfl⟩
        go_wp2_with fail
        refine (fixed_any E t2 t3 8 _ E8.out (by have := HTl.out; have := HCL.out; have := HM.out; have := HLd.out; omega)).mono ?_
        rintro e wx ⟨⟨v3, rfl, bx⟩, ex, kx⟩
        have HFd : Hid (nxF c = fixN t2 t3 8) := hid (by unfold nxF; rw [HTd.out])
        obtain ⟨F, hF⟩ : ∃ F, fixN t2 t3 8 = F := ⟨_, rfl⟩
        rw [hF] at HFd bx ex
        obtain ⟨fb, f2, f3⟩ := F
        dsimp only at bx ex
        have Ex := hid ex
        have Bx := hid bx
        have B2x := hid (B8.out.kept kx (fun _ h => h))
        have B9x := hid (B9.out.kept kx (fun _ h => h))
        have TYx : Hid (T8 wx (.slice y2 tb.length d2)) := hid (TY8.out.kept kx (fun g hg e => by
          obtain ⟨cs, fr, h⟩ := TY8.out g hg
          obtain ⟨u, h2, _⟩ := E8.out
          have e' : g = E := e
          unfold Blk at h2
          rw [e', h2] at h
          injection h with h
          injection h with _ h _
          exact absurd h (by decide)))
        have HRx := hid (HR8.out.kept kx (fun h => by have h' : R0 = E := h; have := LE.out; omega))
        have H8x := hid (H88.out.kept kx (fun h => by have h' : R8 = E := h; have := LR8.out; omega))
        have KNx := hid (KN8.out.trans kx (fun i hi h => by have h' : i = E := h; have := LE.out; have := LWW.out; omega))
        obtain ⟨y3, d3, rfl⟩ := bx.shp
        clear bx ex kx hF E8 B8 B9 BJ8 HR8 H88 KN8 VH CLf eq1
        go_wp2_with fail
        refine (err_any E f2 f3 _ Ex.out).mono ?_
        rintro e we ⟨rfl, rfl⟩
        by_cases h30 : f3 = 0
        · have d30 : (f3 == 0) = true := by simpa using h30
          go_wp2_with fail
          refine (fsum_any _ (c.take q) _ (B9x.out.mono (fun _ h => h.elim)) (by rw [HQL.out]; have := HQM.out; omega)).mono ?_
          rintro e ws ⟨vs, rfl, os, ks⟩
          have Bs : Hid (BySl Nb ws vs (sumF (c.take q))) := hid (BySl.ofOwn (base := wx.heap.size) (by rw [show (sumF (c.take q)).length = 8 from sumK_length _ 8]; exact os) (sumK_bytes _ _) (fun _ _ _ h => h))
          have Bxs := hid (Bx.out.kept ks (fun _ h => h.elim))
          have Es := hid (Ex.out.kept ks (fun _ _ h => h))
          have B2s := hid (B2x.out.kept ks (fun _ h => h.elim))
          have TYs := hid (TYx.out.kept ks (fun _ _ h => h))
          have HRs := hid (HRx.out.kept ks (fun h => h))
          have H8s := hid (H8x.out.kept ks (fun h => h))
          have KNs := hid (KNx.out.trans ks (fun _ _ h => h))
          clear os ks Bx Ex B2x HRx H8x KNx B9x
          go_wp2_with fail
          refine (fequal_any _ _ fb (sumF (c.take q)) ws Bxs.out Bs.out).mono ?_
          rintro e wq ⟨rfl, rfl⟩
          by_cases hs9 : fb = sumF (c.take q)
          · have NE : Hid (nxE c = 0) := hid (by unfold nxE; rw [HFd.out, HHd.out]; dsimp only; rw [if_neg (fun h => h.2 hs9)]; exact h30)
            have d31 : decide (fb = sumF (c.take q)) = true := decide_eq_true hs9
            rw [d31]
            clear hs9 d31 Bxs Bs
            go_wp2_with fail
            refine (err_any E f2 f3 _ Es.out).mono ?_
            rintro e wr9 ⟨rfl, rfl⟩
            have c80 := H8s.out.cell 0
            have c81 := H8s.out.cell 1
            simp only [List.getElem?_cons_zero, List.getElem?_cons_succ] at c80 c81
            have TH := hid (HRs.out.there 0 2 (Nat.le_refl _))
            have H9 : Hid (Blk (ws.setCells R0 0 (frL k (.slice y2 tb.length d2))) R0 24 (frL k (.slice y2 tb.length d2))) := hid (row_set HRs.out rfl)
            have kR : Kp (Jb R0) ws (ws.setCells R0 0 (frL k (.slice y2 tb.length d2))) := Kp.setCells (S := Jb R0) (fun _ => show R0 = R0 from rfl) _ _ _ (Kp.refl _ ws)
            have K9 : Hid (Kp Nb w (ws.setCells R0 0 (frL k (.slice y2 tb.length d2)))) := hid (KNs.out.trans kR (fun i hi h => by have h' : i = R0 := h; have := LR0.out; omega))
            have B29 : Hid (BySl Nb (ws.setCells R0 0 (frL k (.slice y2 tb.length d2))) (.slice y2 tb.length d2) tb) := hid (by_beside (B2s.out.mono (fun _ h => h.elim)) HRs.out (by intro z; simp) (by intro z; simp) kR)
            have TY9 : Hid (T8 (ws.setCells R0 0 (frL k (.slice y2 tb.length d2))) (.slice y2 tb.length d2)) := hid (TYs.out.kept kR (fun g hg e => by
              obtain ⟨cs, fr, h⟩ := TYs.out g hg
              have e' : g = R0 := e
              have h2 := HRs.out
              unfold Blk at h2
              rw [e', h2] at h
              injection h with h
              injection h with _ h _
              exact absurd h (by decide)))
            clear kR
            have hq9 := HQM.out
            go_wp2_with (refine wpList_store_mid (by rfl) 24 (.tmp 2) (.tmp 70) (by rfl) R0 0 (frL k (.slice y2 tb.length d2)).toArray (by rfl) (by rfl) TH.out fr_info (all_oneCell_toArray (frL_one _ _)) ?_)
            refine bodyPost_ret (results_ctt rfl _ R0 (by rfl) (frV k (.slice y2 tb.length d2)) (fr_loadVar H9.out)) rfl ?_
            refine ⟨.slice y2 tb.length d2, ?_, ?_, K9.out⟩
            · rw [next_ok HC.out NE.out, HKd.out, HHd.out, HQL.out]
              rfl
            · rw [next_ok HC.out NE.out, HTd.out]
              exact ⟨B29.out, TY9.out⟩
          · have NE : Hid (nxE c = 14) := hid (by unfold nxE; rw [HFd.out, HHd.out]; dsimp only; rw [if_pos ⟨h30, hs9⟩])
            have d31 : decide (fb = sumF (c.take q)) = false := decide_eq_false hs9
            have HNZ : Hid ((14 : Int) ≠ 0) := hid (by decide)
            rw [d31]
            clear hs9 d31 Bxs Bs
            go_wp2_with fail
            refine (fail_any E f2 f3 14 _ Es.out).mono ?_
            rintro e wg ⟨rfl, eg, kg⟩
            rw [show failE f3 14 = 14 from by unfold failE; rw [if_pos ⟨h30, by decide⟩]] at eg
            have Eg := hid eg
            have HRg := hid (HRs.out.kept kg (fun h => by have h' : R0 = E := h; have := LE.out; omega))
            have KNg := hid (KNs.out.trans kg (fun i hi h => by have h' : i = E := h; have := LE.out; have := LWW.out; omega))
            clear eg kg Es B2s HRs H8s KNs
            go_wp2_with fail
            refine (err_any E _ 14 _ Eg.out).mono ?_
            rintro e wi ⟨rfl, rfl⟩
            go_wp2_with fail
            refine (err_any E _ 14 _ Eg.out).mono ?_
            rintro e wj ⟨rfl, rfl⟩
            have TH := hid (HRg.out.there 0 2 (Nat.le_refl _))
            have H9 : Hid (Blk (wg.setCells R0 0 (frL 0 (.slice none 0 0))) R0 24 (frL 0 (.slice none 0 0))) := hid (row_set HRg.out rfl)
            have K9 : Hid (Kp Nb w (wg.setCells R0 0 (frL 0 (.slice none 0 0)))) := hid (Kp.setCells (fun h => absurd h (Nat.not_lt.2 LR0.out)) _ _ _ KNg.out)
            go_wp2_with (refine wpList_store_mid (by rfl) 24 (.tmp 2) (.tmp 67) (by rfl) R0 0 (frL 0 (.slice none 0 0)).toArray (by rfl) (by rfl) TH.out fr_info (all_oneCell_toArray (frL_one _ _)) ?_)
            refine bodyPost_ret (results_ctt rfl _ R0 (by rfl) (frV 0 (.slice none 0 0)) (fr_loadVar H9.out)) rfl ?_
            refine ⟨.slice none 0 0, ?_, ?_, K9.out⟩
            · rw [next_err HC.out NE.out (by first | decide | exact HNZ.out)]
              rfl
            · rw [next_err HC.out NE.out (by first | decide | exact HNZ.out)]
              exact ⟨BySl.none _, T8.nil _⟩
        · have d30 : (f3 == 0) = false := by simpa using h30
          have NE : Hid (nxE c = f3) := hid (by unfold nxE; rw [HFd.out]; dsimp only; rw [if_neg (fun h => h30 h.1)])
          have HNZ : Hid (f3 ≠ 0) := hid h30
          go_wp2_with fail
          refine (err_any E f2 f3 _ Ex.out).mono ?_
          rintro e wi ⟨rfl, rfl⟩
          go_wp2_with fail
          refine (err_any E f2 f3 _ Ex.out).mono ?_
          rintro e wj ⟨rfl, rfl⟩
          have TH := hid (HRx.out.there 0 2 (Nat.le_refl _))
          have H9 : Hid (Blk (wx.setCells R0 0 (frL 0 (.slice none 0 0))) R0 24 (frL 0 (.slice none 0 0))) := hid (row_set HRx.out rfl)
          have K9 : Hid (Kp Nb w (wx.setCells R0 0 (frL 0 (.slice none 0 0)))) := hid (Kp.setCells (fun h => absurd h (Nat.not_lt.2 LR0.out)) _ _ _ KNx.out)
          go_wp2_with (refine wpList_store_mid (by rfl) 24 (.tmp 2) (.tmp 67) (by rfl) R0 0 (frL 0 (.slice none 0 0)).toArray (by rfl) (by rfl) TH.out fr_info (all_oneCell_toArray (frL_one _ _)) ?_)
          refine bodyPost_ret (results_ctt rfl _ R0 (by rfl) (frV 0 (.slice none 0 0)) (fr_loadVar H9.out)) rfl ?_
          refine ⟨.slice none 0 0, ?_, ?_, K9.out⟩
          · rw [next_err HC.out NE.out (by first | decide | exact HNZ.out)]
            rfl
          · rw [next_err HC.out NE.out (by first | decide | exact HNZ.out)]
            exact ⟨BySl.none _, T8.nil _⟩

end Go.Proofs.Ytmgmghlflldepaa
