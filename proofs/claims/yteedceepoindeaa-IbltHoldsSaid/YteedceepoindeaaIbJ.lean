/-
  Layer 11: the reference's Put and Of. Conditions: sizes that fit.
-/
import Derived.Test.YteedceepoindeaaIbI
import Derived.Test.YteedceepoindeaaCelL
import Derived.Test.YteedceepoindeaaIbCr
namespace Go.Proofs.Yteedceepoindeaa
open Go.RowKit Go.Shelf
attribute [local go_sem] Oper.semAt_some

set_option maxRecDepth 100000 in
set_option maxHeartbeats 4000000 in
theorem rput_any (s : Int) (t : Nat) (v : Value) (cs : List Cel) (m : List Int) (w : World) (h : RowsSl cl c0 18 w v cs) (ho : AllOk cs) (hm : MarkOk m) (hn : cs.length = 3 * t) (h0 : 0 < t) (h1 : t ≤ 512) :
    Calls Try.prog 24 #[v, markV m, .int .i64 s] w fun e w' => ∃ g cap rest, e = .returned (.slice (some ⟨g, 0, none⟩) cs.length cap) ∧ w.heap.size ≤ g ∧ Blk w' g 41 (rws (updP (signC s) t m cs 3) ++ rest) ∧ cs.length ≤ cap ∧ cap ≤ maxLen ∧ Kp Nb w w' := by
  rcases h with ⟨_, rfl⟩ | ⟨blk, off, cap, rfl, hc, hm', hcell⟩
  · simp at hn; omega
  obtain ⟨i0, z, hi, hz0, hz1, hz2, hz3⟩ := cell_info3
  have A := hid (rws_cell ho hcell)
  have HLR := hid (flatR_length cs ho.len)
  have HOK := hid ho
  have HM := hid hm
  obtain ⟨n, hnn⟩ : ∃ n, n = cs.length := ⟨_, rfl⟩
  have HNN := hid hnn
  have HT : Hid (0 < t ∧ t ≤ 512) := hid ⟨h0, h1⟩
  have HN3 : Hid (n = 3 * t) := hid (by rw [hnn, hn])
  obtain ⟨X, hX⟩ : ∃ X, X = ofC m := ⟨_, rfl⟩
  have XO : Hid (CelOk X) := hid (by rw [hX]; exact ofC_ok hm)
  have HXE := hid hX
  have CO : Hid (∀ w, Calls Try.prog 48 #[markV m] w fun e w' => e = .returned (cv X) ∧ Kp Nb w w') := hid (fun w => by rw [hX]; exact rof_any m w HM.out)
  have CPL : Hid (∀ w, Calls Try.prog 16 #[.int .i64 (n : Int), markV m] w fun e w' => e = .returned (plcV t m) ∧ Kp Nb w w') := hid (fun w => by
    have h := rplaces_any t m w HM.out h0 h1
    rw [← hn, ← hnn] at h
    exact h)
  rw [← hnn] at hc ⊢
  have FB := hid (show n ≤ 1536 ∧ 0 < n ∧ n ≤ maxLen from ⟨by omega, by omega, by unfold maxLen; omega⟩)
  obtain ⟨W, hW⟩ : ∃ W, W = w.alloc (.cells (markL m).toArray 23) := ⟨_, rfl⟩
  have H3 : Hid (Blk W w.heap.size 23 (markL m)) := hid (by rw [hW]; exact Blk.new w _ _)
  have K3 : Hid (Kp Nb w W) := hid (by rw [hW]; exact (Kp.refl Nb w).alloc _)
  have HSZ : Hid (W.heap.size = w.heap.size + 1) := hid (by rw [hW]; simp)
  clear hcell ho hm hn h0 h1 hX hnn hm' hc
  go_enter Try.func24, Try.ntmps24
  go_upto_region 1 with fail
  rw [show w.alloc (.cells (markL m).toArray 23) = W from hW.symm]
  clear hW
  go_wp2_with (at_builtin; refine wpList_append_own _ rfl _ _ 35 rfl W.heap.size 41 i0 z 18 32 Try.underlying35 hi hz0 hz1 hz2 hz3 (by decide) _ _ _ rfl (World.ownsRow_made W #[] 0 (Nat.le_refl _) (Nat.zero_le _) rfl) ⟨blk, off, none⟩ n cap (rws cs) rfl ?qc1 ?qc2 ?qc3 ?qc4 ?qc5 ?qc6 ?_)
  case qc1 => rw [HNN.out]; exact HLR.out
  case qc2 =>
    intro j u hj
    refine Lib.cell?_alloc_some _ ?_
    rw [add_mid]
    exact K3.out.cell (A.out j u hj) (fun h => h)
  case qc3 => exact rws_one
  case qc4 => rw [Nat.zero_add]; exact FB.out.2.2
  case qc5 => have := FB.out; omega
  case qc6 => simp
  intro v' w1 hown hgrow hnil
  have hk := ((Kp.refl Nb W).alloc (.cells #[] 41)).grown hgrow (fun k hk h => by simp [Value.ownBlock] at hk; omega)
  obtain ⟨C, cp, rest, rfl, hg, hb, hn, hx⟩ := own_blk (by simpa using hown) FB.out.2.1
  have B4 := hid hb
  have H4 := hid (H3.out.kept hk (fun h => h))
  have K4 := hid (K3.out.trans hk (fun _ _ h => h))
  have LL := hid (show w.heap.size < C from by have := HSZ.out; omega)
  have FC : Hid (n ≤ cp ∧ cp ≤ maxLen) := hid ⟨hn, hx⟩
  unfold maxLen at hx
  obtain ⟨N, hN⟩ : ∃ N, w.heap.size = N := ⟨_, rfl⟩
  have LN : Hid (w.heap.size ≤ C ∧ N < C) := hid ⟨by have := LL.out; omega, by have := LL.out; omega⟩
  rw [hN] at H4 ⊢
  clear hN hown hgrow hnil hg hb hk H3 K3 HSZ A HLR
  go_wp2_with (refine wpList_load_mid (by rfl) 23 (.tmp 4) (by rfl) N 0 (by rfl) (markL m) _ (range_of H4.out) under_mark rfl (mark_infoL m HM.out.len) ?_)
  refine (CPL.out _).mono ?_
  rintro e w6 ⟨rfl, k6⟩
  have H6 := hid (H4.out.kept k6 (fun h => h))
  have C6 : Hid (Blk w6 C 41 (rws (updP (signC s) t m cs 0) ++ rest)) := hid (B4.out.kept k6 (fun h => h))
  have K6 := hid (K4.out.trans k6 (fun _ _ h => h))
  clear k6 H4 B4 K4 CPL
  go_wp2
  go_loopw [17] (UpdR w6 C rest (updP (signC s) t m cs)) (fun i _ => 3 - (intOf i).toNat)
  case atStart => exact ⟨0, by omega, rfl, C6, Kp.refl _ _⟩
  case round =>
    clear C6
    obtain ⟨k, hk, rfl, HA, HK⟩ := hrel
    by_cases hlt : k < 3
    · have IX := hid (idx_plc t m k hlt)
      have hp := plc_lt t m k HT.out.1 hlt
      have PN : plc t m k < n := by rw [HN3.out]; exact hp
      have OK := hid (updP_ok (g := signC s) (fun _ _ => signC_ok) t m HOK.out k)
      have LEN : Hid ((updP (signC s) t m cs k).length = n) := hid (by rw [updP_length, HNN.out])
      have HQ : Hid (updP (signC s) t m cs (k + 1) = (updP (signC s) t m cs k).set (plc t m k) (signC s (celAt (updP (signC s) t m cs k) (plc t m k)) X)) := hid (by rw [HXE.out]; rfl)
      have XR := hid (flat_range (z := c0) HA.out OK.out.len (plc t m k) (by rw [LEN.out]; exact PN) (cl_length (OK.out.at _)))
      have UO := hid (OK.out.at (plc t m k))
      have XR' : Hid (wr.rangeAt C (plc t m k * 18) (cl (celAt (updP (signC s) t m cs k) (plc t m k)))) := XR
      clear XR hp
      generalize celAt (updP (signC s) t m cs k) (plc t m k) = u at HQ XR' UO
      generalize plc t m k = p at HQ XR' IX PN
      generalize updP (signC s) t m cs k = ck at HA OK LEN HQ
      obtain ⟨Y, hY⟩ : ∃ Y, Y = signC s u X := ⟨_, rfl⟩
      rw [← hY] at HQ
      have YO : Hid (CelOk Y) := hid (by rw [hY]; exact signC_ok)
      have CY : Hid (∀ w, Calls Try.prog 47 #[cv u, cv X, .int .i64 s] w fun e w' => e = .returned (cv Y) ∧ Kp Nb w w') := hid (fun w => by rw [hY]; exact radd_any s u X w UO.out XO.out)
      have X7 := hid (H6.out.kept HK.out (fun h => by have h' : N = C := h; have := LN.out; omega))
      have PZ : Hid ((0 : Int) ≤ (p : Int)) := hid (by omega)
      have PL : Hid ((p : Int) < (n : Int)) := hid (by omega)
      have PT : Hid (((p : Nat) : Int).toNat = p) := hid (by omega)
      have HPN := hid PN
      have i1 := IX.out
      clear hY PN
      go_upto_region 5 with fail
      refine region_vals_last (n := 11) [none, none, none, none, none, none, none, none, none, none, none, none, none, none, none, none, none, none, none, none, some 0, some 1, some 2, some 3, some 4, some 5, some 6, some 7, some 8, some 9, some 10, none, none] [[(7, none)], [(9, none)], [(7, none)], [(9, none)], [(22, some 2), (23, some 3)], [(24, some 4)], [(4, none)], [(26, some 6)], [(2, none)], [(25, some 5), (27, some 7), (28, some 8)], [(20, some 0), (21, some 1)], [(30, some 10), (29, some 9)]] [some 20, some 21, some 22, some 23, some 24, some 25, some 26, some 27, some 28, some 29, some 30] [.slice (some ⟨C, 0, none⟩) n cp, .int .i64 (p : Int), .slice (some ⟨C, 0, none⟩) n cp, .int .i64 (p : Int), .pointer (some ⟨C, p * 18, none⟩), cv u, markV m, cv X, .int .i64 s, cv Y, .pointer (some ⟨C, p * 18, none⟩)] (fun w' => Hid (Kp Nb wr w')) (by kernel_rfl) (by kernel_rfl) (by kernel_rfl) (by kernel_rfl) ({ dst := none, op := Op.store 41 (Operand.tmp 30) (Operand.tmp 29), type := 0, pos := "ref.go:28", after := #[{ on := 10, ground := Ground.data }, { on := 9, ground := Ground.data }, { on := 9, ground := Ground.chain }, { on := 0, ground := Ground.phase }, { on := 1, ground := Ground.phase }, { on := 2, ground := Ground.phase }, { on := 3, ground := Ground.phase }, { on := 4, ground := Ground.phase }, { on := 5, ground := Ground.phase }, { on := 6, ground := Ground.phase }, { on := 7, ground := Ground.phase }, { on := 8, ground := Ground.phase }, { on := 9, ground := Ground.phase }], guard := none }) rfl rfl (by kernel_rfl) (by kernel_rfl) ?hS (?hstep : VFrom _ _ _ _ _ _ 0 11).start ?hend
      case hstep =>
        refine VFrom.cons (VStep.val _ rfl _ rfl (.slice (some ⟨C, 0, none⟩) n cp) rfl trivial (fun ev wq hS he hr => ?_)) ?_
        · have r0 : ev (.tmp 7) = .slice (some ⟨C, 0, none⟩) n cp := hr (7, none) (by simp); have hk := he.1; clear hr he
          go_simp
        refine VFrom.cons (VStep.val _ rfl _ rfl (.int .i64 (p : Int)) rfl trivial (fun ev wq hS he hr => ?_)) ?_
        · have r0 : ev (.tmp 9) = .int .i64 (p : Int) := hr (9, none) (by simp); have hk := he.1; clear hr he
          go_simp
        refine VFrom.cons (VStep.val _ rfl _ rfl (.slice (some ⟨C, 0, none⟩) n cp) rfl trivial (fun ev wq hS he hr => ?_)) ?_
        · have r0 : ev (.tmp 7) = .slice (some ⟨C, 0, none⟩) n cp := hr (7, none) (by simp); have hk := he.1; clear hr he
          go_simp
        refine VFrom.cons (VStep.val _ rfl _ rfl (.int .i64 (p : Int)) rfl trivial (fun ev wq hS he hr => ?_)) ?_
        · have r0 : ev (.tmp 9) = .int .i64 (p : Int) := hr (9, none) (by simp); have hk := he.1; clear hr he
          go_simp
        refine VFrom.cons (VStep.val _ rfl _ rfl (.pointer (some ⟨C, p * 18, none⟩)) rfl trivial (fun ev wq hS he hr => ?_)) ?_
        · have r0 : ev (.tmp 22) = .slice (some ⟨C, 0, none⟩) n cp := hr (22, some 2) (by simp); have r1 : ev (.tmp 23) = .int .i64 (p : Int) := hr (23, some 3) (by simp); have hk := he.1; clear hr he
          have e1 := PZ.out; have e2 := PL.out; have e3 := PT.out; have e4 := FC.out; unfold maxLen at e4
          go_simp
        refine VFrom.cons (VStep.val _ rfl _ rfl (cv u) rfl trivial (fun ev wq hS he hr => ?_)) ?_
        · have r0 : ev (.tmp 24) = .pointer (some ⟨C, p * 18, none⟩) := hr (24, some 4) (by simp); have hk := he.1; clear hr he
          exact exec_load rfl r0 (load_cell UO.out (range_kept XR'.out hS.out))
        refine VFrom.cons (VStep.val _ rfl _ rfl (markV m) rfl trivial (fun ev wq hS he hr => ?_)) ?_
        · have r0 : ev (.tmp 4) = .pointer (some ⟨N, 0, none⟩) := hr (4, none) (by simp); have hk := he.1; clear hr he
          exact exec_load rfl r0 (load_mark HM.out (range_of (X7.out.kept hS.out (fun h => h))))
        refine VFrom.cons (VStep.call _ rfl _ rfl (cv X) rfl trivial 48 #[markV m] (fun ev wq hS he hr => ?_) (fun wq hS => ?_)) ?_
        · have r0 : ev (.tmp 26) = markV m := hr (26, some 6) (by simp); have hk := he.1; have hf := he.2; clear hr he
          go_simp
        · exact (CO.out wq).mono fun e w' ⟨h1, h2⟩ => ⟨h1, hS.out.trans h2 (fun _ _ h => h)⟩
        refine VFrom.cons (VStep.val _ rfl _ rfl (.int .i64 s) rfl trivial (fun ev wq hS he hr => ?_)) ?_
        · have r0 : ev (.tmp 2) = .int .i64 s := hr (2, none) (by simp); have hk := he.1; clear hr he
          go_simp
        refine VFrom.cons (VStep.call _ rfl _ rfl (cv Y) rfl trivial 47 #[cv u, cv X, .int .i64 s] (fun ev wq hS he hr => ?_) (fun wq hS => ?_)) ?_
        · have r0 : ev (.tmp 25) = cv u := hr (25, some 5) (by simp); have r1 : ev (.tmp 27) = cv X := hr (27, some 7) (by simp); have r2 : ev (.tmp 28) = .int .i64 s := hr (28, some 8) (by simp); have hk := he.1; have hf := he.2; clear hr he
          go_simp
        · exact (CY.out wq).mono fun e w' ⟨h1, h2⟩ => ⟨h1, hS.out.trans h2 (fun _ _ h => h)⟩
        refine VFrom.cons (VStep.val _ rfl _ rfl (.pointer (some ⟨C, p * 18, none⟩)) rfl trivial (fun ev wq hS he hr => ?_)) ?_
        · have r0 : ev (.tmp 20) = .slice (some ⟨C, 0, none⟩) n cp := hr (20, some 0) (by simp); have r1 : ev (.tmp 21) = .int .i64 (p : Int) := hr (21, some 1) (by simp); have hk := he.1; clear hr he
          have e1 := PZ.out; have e2 := PL.out; have e3 := PT.out; have e4 := FC.out; unfold maxLen at e4
          go_simp
        exact VFrom.nil
      case hS => exact hid ((Kp.refl Nb wr).drew)
      case hend =>
        intro af wy haf kh
        have HE := HA.out.kept kh.out (fun h => h)
        have HA3 : Hid (Blk (wy.setCells C (p * 18) (cl Y)) C 41 (rws (updP (signC s) t m cs (k + 1)) ++ rest)) := hid (by rw [HQ.out]; exact flat_put HE OK.out.len p Y (by rw [LEN.out]; exact HPN.out) (cl_length YO.out))
        have HK3 : Hid (Kp (Jb C) w6 (wy.setCells C (p * 18) (cl Y))) := hid (Kp.setCells (S := Jb C) (fun _ => show C = C from rfl) _ _ _ (HK.out.trans kh.out (fun _ _ h => h.elim)))
        refine cv_put (x := Y) (o := p * 18) (ad := .tmp 30) (v := .tmp 29) YO.out (flat_there HE OK.out.len p (by rw [LEN.out]; exact HPN.out)) rfl (by rw [haf.out]; kernel_rfl) (by rw [haf.out]; kernel_rfl) ?_
        rw [haf.out]
        clear haf kh HE
        simp only [putAll, List.zip_cons_cons, List.zip_nil_right, List.foldl_cons, List.foldl_nil, Act.put, List.setIfInBounds_toArray, List.set_cons_zero, List.set_cons_succ]
        go_wp2
        go_roundw
        case rel => exact ⟨k + 1, by omega, by go_num, HA3, HK3⟩
        case measure => simp [intOf]; omega
    · obtain rfl : k = 3 := by omega
      have K7 := hid (K6.out.trans HK.out (fun i hi h => by have h' : i = C := h; have := LN.out; omega))
      clear HK
      go_wp2
      go_ret
      exact ⟨C, cp, rest, rfl, LN.out.1, HA.out, FC.out.1, FC.out.2, K7.out⟩

theorem sign_one : signC 1 = addC := funext fun x => funext fun y => signC_one x y
theorem sign_neg : signC (-1) = subC := funext fun x => funext fun y => signC_neg x y
theorem rput_sl (s : Int) (t : Nat) (v : Value) (cs : List Cel) (m : List Int) (w : World) (h : RowsSl cl c0 18 w v cs) (ho : AllOk cs) (hm : MarkOk m) (hn : cs.length = 3 * t) (h0 : 0 < t) (h1 : t ≤ 512) :
    Calls Try.prog 24 #[v, markV m, .int .i64 s] w fun e w' => ∃ v', e = .returned v' ∧ RowsSl cl c0 18 w' v' (updP (signC s) t m cs 3) ∧ Kp Nb w w' :=
  (rput_any s t v cs m w h ho hm hn h0 h1).mono fun e w' ⟨g, cap, rest, he, _, hb, hc, hx, hk⟩ => by
    refine ⟨_, he, .inr ⟨g, 0, cap, by rw [updP_length], by rw [updP_length]; exact hc, hx, fun i hi => ?_⟩, hk⟩
    have ok := updP_ok (g := signC s) (fun _ _ => signC_ok) t m ho 3
    rw [Nat.zero_add]
    exact flat_range hb ok.len i hi (cl_length (ok.at i))
def RofR (w : World) (t : Nat) (ms : List (List Int)) (i u : Value) (wr : World) : Prop := ∃ k : Nat, k ≤ ms.length ∧ i = .int .i64 k ∧ Hid (RowsSl cl c0 18 wr u (ofS t (ms.take k))) ∧ Hid (AllOk (ofS t (ms.take k))) ∧ Hid (Kp Nb w wr)
set_option maxRecDepth 100000 in
set_option maxHeartbeats 4000000 in
theorem rsof_any (t : Nat) (v : Value) (ms : List (List Int)) (w : World) (h0 : 0 < t) (h1 : t ≤ 512) (hs : MkSl w v ms) :
    Calls Try.prog 37 #[.int .i64 ((3 * t : Nat) : Int), v] w fun e w' => ∃ v', e = .returned v' ∧ RowsSl cl c0 18 w' v' (ofS t ms) ∧ Kp Nb w w' := by
  obtain ⟨y, d, rfl⟩ := hs.shape
  obtain ⟨n, hn⟩ : ∃ n, 3 * t = n := ⟨_, rfl⟩
  rw [hn]
  have MK := make_zero w n (by omega)
  have HS := hid hs
  have HN := hid hn
  have HT : Hid (0 < t ∧ t ≤ 512) := hid ⟨h0, h1⟩
  obtain ⟨zs, hz⟩ : ∃ zs, zs = rws (zeroS n) := ⟨_, rfl⟩
  rw [← hz] at MK
  obtain ⟨W, hW⟩ : ∃ W, W = w.alloc (.cells zs.toArray 41) := ⟨_, rfl⟩
  have S0 : Hid (RowsSl cl c0 18 W (.slice (some ⟨w.heap.size, 0, none⟩) n n) (ofS t (ms.take 0))) := hid (by
    have hb : Blk W w.heap.size 41 (rws (zeroS n) ++ []) := by rw [List.append_nil, ← hz, hW]; exact Blk.new w _ _
    unfold ofS
    rw [List.take_zero, hn]
    refine .inr ⟨_, 0, n, by rw [List.foldl_nil, zeroS_length], by rw [List.foldl_nil, zeroS_length]; exact Nat.le_refl _, by unfold maxLen; omega, fun i hi => ?_⟩
    rw [Nat.zero_add]
    exact flat_range hb (zeroS_ok n).len i hi (cl_length ((zeroS_ok n).at i)))
  have O0 : Hid (AllOk (ofS t (ms.take 0))) := hid (by unfold ofS; rw [List.take_zero]; exact zeroS_ok _)
  have K0 : Hid (Kp Nb w W) := hid (by rw [hW]; exact (Kp.refl Nb w).alloc _)
  have HM := hid hs.1
  clear hs hn h0 h1 hz
  go_enter Try.func37, Try.ntmps37
  go_wp2
  rw [show w.alloc (.cells zs.toArray 41) = W from hW.symm]
  clear hW MK
  go_loopw [12, 5] (RofR w t ms) (fun i _ _ => ms.length - (intOf i).toNat)
  case atStart => exact ⟨0, by omega, rfl, S0, O0, K0⟩
  case round =>
    clear S0 K0 O0
    obtain ⟨k, hk, rfl, HA, OK, HK⟩ := hrel
    by_cases hlt : k < ms.length
    · have hC := HS.out.kept HK.out
      rcases hC.2 with ⟨_, e0⟩ | ⟨blk, off, cap, e1, hc, hm, hcell⟩
      · rw [e0] at hlt
        exact absurd hlt (Nat.not_lt_zero _)
      · injection e1 with e1 _ e2
        subst e1 e2
        have HR := hid (hcell k hlt)
        have M1 := hid (hC.1 k)
        have HQ := hid (ofS_snoc t ms k hlt)
        have HL := hid (ofS_length t (ms.take k))
        unfold maxLen at hm
        generalize markAt ms k = z at HR M1 HQ
        generalize ofS t (ms.take k) = cs at HA HQ HL OK
        have hz := Blk.new wr 23 (markL (List.replicate 16 0))
        obtain ⟨W2, hW2⟩ : ∃ W, W = (wr.alloc (.cells (markL (List.replicate 16 0)).toArray 23)).setCells wr.heap.size 0 (markL z) := ⟨_, rfl⟩
        have kW : Kp Nb wr W2 := by rw [hW2]; exact Kp.setCells (fun h => absurd h (Nat.lt_irrefl _)) _ 0 _ ((Kp.refl Nb wr).alloc _)
        have TH := hid (mark_there hz (by rw [markL_length]; rfl) M1.out)
        have SI := hid (mark_sized M1.out)
        have ON := hid (all_oneCell_toArray (markL_one z))
        have HZ : Hid (Blk W2 wr.heap.size 23 (markL z)) := hid (by rw [hW2]; exact row_set hz (by rw [markL_length, markL_length, M1.out.len]; rfl))
        have HA1 := hid (HA.out.kept kW)
        have HK1 := hid (HK.out.trans kW (fun _ _ h => h))
        have CP := hid (rput_sl 1 t _ cs z W2 HA1.out OK.out M1.out HL.out HT.out.1 HT.out.2)
        clear hz kW hcell hC
        go_upto_region 5 with (first
          | (refine wpList_load_mid (by rfl) 23 (.tmp 14) (by rfl) blk (off + k * 16) (by rfl) (markL z) _ HR.out under_mark rfl (mark_infoL z M1.out.len) ?_)
          | (refine wpList_store_mid (by rfl) 23 (.tmp 7) (.tmp 15) (by rfl) wr.heap.size 0 (markL z).toArray (by rfl) (by rfl) TH.out SI.out ON.out ?_))
        rw [show (wr.alloc (.cells #[.int .u8 0, .int .u8 0, .int .u8 0, .int .u8 0, .int .u8 0, .int .u8 0, .int .u8 0, .int .u8 0, .int .u8 0, .int .u8 0, .int .u8 0, .int .u8 0, .int .u8 0, .int .u8 0, .int .u8 0, .int .u8 0] 23)).setCells wr.heap.size 0 (markL z) = W2 from hW2.symm]
        clear hW2 TH SI ON
        go_wp2_with (refine wpList_load_mid (by rfl) 23 (.tmp 7) (by rfl) wr.heap.size 0 (by rfl) (markL z) _ (range_of HZ.out) under_mark rfl (mark_infoL z M1.out.len) ?_)
        refine CP.out.mono ?_
        rintro e w3 ⟨v3, rfl, s3, k3⟩
        obtain ⟨y3, d3, rfl⟩ := s3.shape
        have HA3 : Hid (RowsSl cl c0 18 w3 (.slice y3 (updP (signC 1) t z cs 3).length d3) (ofS t (ms.take (k + 1)))) := hid (by rw [HQ.out, ← sign_one]; exact s3)
        have OK3 : Hid (AllOk (ofS t (ms.take (k + 1)))) := hid (by rw [HQ.out]; exact updP_ok (fun _ _ => addC_ok) t z OK.out 3)
        have HK3 := hid (HK1.out.trans k3 (fun _ _ h => h))
        clear s3 k3 HA1 HK1 CP
        go_wp2
        go_roundw
        case rel => exact ⟨k + 1, by omega, by go_num, HA3, OK3, HK3⟩
        case measure => simp [intOf]; omega
    · obtain rfl : k = ms.length := by omega
      have HA3 := HA.out
      rw [List.take_length] at HA3
      have HA4 := hid HA3
      obtain ⟨y3, d3, rfl⟩ := HA3.shape
      clear HA HA3
      go_wp2
      go_ret
      exact ⟨_, rfl, HA4.out, HK.out⟩

end Go.Proofs.Yteedceepoindeaa
