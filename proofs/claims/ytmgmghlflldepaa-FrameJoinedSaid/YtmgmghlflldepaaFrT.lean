/-
  Layer 19: the law FrameJoined. Conditions: bytes.
-/
import Derived.Test.YtmgmghlflldepaaFrS
namespace Go.Proofs.Ytmgmghlflldepaa
open Go.RowKit Go.Shelf
attribute [local go_sem] Oper.semAt_some

structure JoS (w0 : World) (ps : List FrT) (v3 v4 v5 : Value) (wr : World) : Prop where
  kp : Kp Nb w0 wr
  r3 : wr.ownsRow w0.heap.size 5 1 v3 (joinF (ps.map ftK)).length ((joinF (ps.map ftK)).map (Value.int .u8))
  r4 : wr.ownsRow w0.heap.size 3 1 v4 (plF (ps.map ftK)).length ((plF (ps.map ftK)).map (Value.int .i64))
  r5 : wr.ownsRow w0.heap.size 24 2 v5 ps.length (ps.flatMap ftL)
  len : (joinF (ps.map ftK)).length ≤ 8061
theorem JoS.kept {w0 w w' : World} {ps : List FrT} {v3 v4 v5 : Value} (h : JoS w0 ps v3 v4 v5 w) (k : Kp Nb w w') : JoS w0 ps v3 v4 v5 w' := ⟨h.kp.trans k (fun _ _ h => h), ownsRow_kpn h.r3 k, ownsRow_kpn h.r4 k, ownsRow_kpn h.r5 k, h.len⟩
theorem JoS.start {w0 w : World} (k : Kp Nb w0 w) : JoS w0 [] (.slice none 0 0) (.slice none 0 0) (.slice none 0 0) w :=
  ⟨k, ⟨rfl, .inl ⟨rfl, rfl⟩⟩, ⟨rfl, .inl ⟨rfl, rfl⟩⟩, ⟨rfl, .inl ⟨rfl, rfl⟩⟩, by decide⟩
def JoR (w0 : World) (l : List FrT) (i v3 v4 v5 : Value) (wr : World) : Prop := ∃ j : Nat, j ≤ l.length ∧ i = .int .i64 j ∧ Hid (JoS w0 (pickF (l.take j)) v3 v4 v5 wr)
def JtR (w0 : World) (n : Nat) (i : Value) (wr : World) : Prop := ∃ j : Nat, j ≤ n ∧ i = .int .i64 j ∧ Hid (Kp Nb w0 wr)

theorem flat_ints : ∀ zs : List Int, flatR (fun z => [Value.int .i64 z]) zs = zs.map (Value.int .i64)
  | [] => rfl
  | z :: r => by
    have h := flat_ints r
    unfold flatR at h ⊢
    rw [List.flatMap_cons, h]
    rfl

set_option maxRecDepth 100000 in
set_option maxHeartbeats 16000000 in
theorem fjoined_any (v : Value) (l : List FrT) (w : World) (hl : RowsSl ftL ftZ 2 w v l) (hb : ∀ q ∈ l, BySl Nb w q.2.1 q.2.2) :
    Calls Try.prog 6 #[v] w fun e w' => e = .returned (.bool true) ∧ Kp Nb w w' := by
  obtain ⟨y, d, rfl⟩ := hl.shape
  obtain ⟨n, hn⟩ : ∃ n, l.length = n := ⟨_, rfl⟩
  rw [hn]
  have HN := hid hn
  have HLR := hid hl
  have HBY := hid hb
  rw [hn] at HLR
  have HIB : Hid (∀ q ∈ l, IsBytes q.2.2) := hid (fun q hq => (hb q hq).1)
  clear hl hb hn
  go_enter Try.func6, Try.ntmps6
  go_wp2_with fail
  refine (ffirst_any _).mono ?_
  rintro e w1 ⟨rfl, k1⟩
  have S0 := hid (JoS.start k1)
  clear k1
  go_wp2
  go_loopw [15, 3, 4, 5] (JoR w l) (fun i _ _ _ _ => n - (intOf i).toNat)
  case atStart => exact ⟨0, Nat.zero_le _, rfl, S0⟩
  case round =>
    clear S0
    obtain ⟨j, hj, rfl, HS⟩ := hrel
    rw [HN.out] at hj
    obtain ⟨y3, d3, rfl⟩ := own_shape HS.out.r3
    obtain ⟨y4, d4, rfl⟩ := own_shape HS.out.r4
    obtain ⟨y5, d5, rfl⟩ := own_shape HS.out.r5
    by_cases hlt : j < n
    · have hX := HLR.out.kept HS.out.kp
      obtain ⟨blk, off, cap, e1, hc, hm, hcell⟩ := rows_pos hX HN.out (by omega)
      injection e1 with e1 e2 e3
      subst e1 e3
      clear e2
      obtain ⟨⟨k, vf, zs⟩, hq⟩ : ∃ q, l[j]? = some q := ⟨_, List.getElem?_eq_getElem (by have := HN.out; omega)⟩
      have hcj := hcell j hlt
      rw [hq] at hcj
      have HQ := hid hq
      have hbq := HBY.out _ (List.mem_of_getElem? hq)
      dsimp only at hbq
      obtain ⟨yf, df, rfl⟩ := hbq.shp
      obtain ⟨L, hL⟩ : ∃ L, zs.length = L := ⟨_, rfl⟩
      rw [hL] at hbq hcj HQ
      have HL := hid hL
      have HBQ := hid hbq
      have c0 : wr.cell? ⟨blk, off + j * 2, none⟩ = some (.int .i64 k) := hcj 0 _ rfl
      have c1 : wr.cell? ⟨blk, off + j * 2 + 1, none⟩ = some (.slice yf L df) := hcj 1 _ rfl
      obtain ⟨n3, hn3⟩ : ∃ n3, (joinF ((pickF (l.take j)).map ftK)).length = n3 := ⟨_, rfl⟩
      rw [hn3]
      have HN3 := hid hn3
      have h3b : n3 ≤ 8061 := by rw [← hn3]; exact HS.out.len
      have hpl : (plF ((pickF (l.take j)).map ftK)).length = (pickF (l.take j)).length := by rw [plF_length, List.length_map]
      obtain ⟨np, hnp⟩ : ∃ m, (pickF (l.take j)).length = m := ⟨_, rfl⟩
      rw [hpl, hnp]
      have HNP := hid hnp
      have HPL := hid hpl
      unfold maxLen at hm
      obtain ⟨W7, hW7⟩ : ∃ W, W = wr.alloc (.cells (frL k (.slice yf L df)).toArray 24) := ⟨_, rfl⟩
      obtain ⟨M7, hM7⟩ : ∃ N, wr.heap.size = N := ⟨_, rfl⟩
      have B7 : Hid (Blk W7 M7 24 (frL k (.slice yf L df))) := hid (by rw [hW7, ← hM7]; exact Blk.new wr _ _)
      have k7 : Kp Nb wr W7 := by rw [hW7]; exact (Kp.refl Nb wr).alloc _
      have HS7 := hid (HS.out.kept k7)
      have NE7 : Hid ((Value.slice y5 np d5).ownBlock ≠ some M7) := hid (fun hb => by
        have h5 := HS.out.r5
        rw [hnp] at h5
        have := (h5.lt _ hb).2
        omega)
      clear hbq hcj hcell hX hq hL hn3 hnp hpl k7
      go_upto_region 9 with fail
      rw [show wr.alloc (.cells #[.int .i64 k, .slice yf L df] 24) = W7 from hW7.symm]
      clear hW7 hM7 c0 c1
      have p0 := B7.out.cell 0
      have p1 := B7.out.cell 1
      simp only [List.getElem?_cons_zero, List.getElem?_cons_succ] at p0 p1
      by_cases hl1 : 2100 < L
      · have d1 : decide ((L : Int) > 2100) = true := decide_eq_true (by omega)
        go_wp2
        go_ret
        exact ⟨rfl, HS7.out.kp⟩
      have d1 : decide ((L : Int) > 2100) = false := decide_eq_false (by omega)
      by_cases hl2 : 6000 < n3
      · have d2 : decide ((n3 : Int) > 6000) = true := decide_eq_true (by omega)
        go_wp2
        go_ret
        exact ⟨rfl, HS7.out.kp⟩
      have d2 : decide ((n3 : Int) > 6000) = false := decide_eq_false (by omega)
      obtain ⟨b, hbr⟩ : ∃ b, rightF k L = b := ⟨_, rfl⟩
      have CR : Hid (∀ w, Calls Try.prog 12 #[frV k (.slice yf L df)] w fun e w' => e = .returned (.bool b) ∧ Kp Nb w w') := hid (fun w => by rw [← hbr]; exact fright_any k yf L df w)
      have HBR := hid hbr
      have HL1 := hid hl1
      have HL2 := hid hl2
      clear hbr hl1 hl2
      go_wp2_with fail
      refine (CR.out _).mono ?_
      rintro e w8 ⟨rfl, k8⟩
      have HS8 := hid (HS7.out.kept k8)
      have B8 := hid (B7.out.kept k8 (fun h => h))
      clear k8 HS7 B7 CR p0 p1 d1 d2
      cases b
      · have HP : Hid (pickF (l.take (j + 1)) = pickF (l.take j)) := hid (by
          have hjl : j < l.length := by have := HN.out; omega
          have hq : l[j] = (k, .slice yf L df, zs) := Option.some.inj ((List.getElem?_eq_getElem hjl).symm.trans HQ.out)
          refine pickF_no l j hjl ?_
          rw [hq]
          dsimp only
          rw [HL.out]
          exact HBR.out)
        have RE : Hid (JoR w l (.int .i64 ((j : Int) + 1)) (.slice y3 n3 d3) (.slice y4 np d4) (.slice y5 np d5) w8) := hid (by
          refine ⟨j + 1, by have := HN.out; omega, by go_num, hid ?_⟩
          rw [HP.out]
          have h := HS8.out
          rw [HN3.out, HPL.out, HNP.out] at h
          exact h)
        go_wp2
        go_roundw
        case rel => exact RE.out
        case measure => simp [intOf]; omega
      · obtain ⟨ps, hps⟩ : ∃ ps, pickF (l.take j) = ps := ⟨_, rfl⟩
        have HP : Hid (pickF (l.take (j + 1)) = ps ++ [(k, .slice yf L df, zs)]) := hid (by
          have hjl : j < l.length := by have := HN.out; omega
          have hq : l[j] = (k, .slice yf L df, zs) := Option.some.inj ((List.getElem?_eq_getElem hjl).symm.trans HQ.out)
          rw [← hps, pickF_yes l j hjl (by rw [hq]; dsimp only; rw [HL.out]; exact HBR.out), hq])
        have HS9 : Hid (JoS w ps (.slice y3 n3 d3) (.slice y4 np d4) (.slice y5 np d5) w8) := hid (by
          have h := HS8.out
          rw [HN3.out, HPL.out, HNP.out, hps] at h
          exact h)
        have HZ3 : Hid ((joinF (ps.map ftK)).length = n3) := hid (by rw [← hps]; exact HN3.out)
        have HNQ : Hid (ps.length = np) := hid (by rw [← hps]; exact HNP.out)
        have RTP : Hid (∀ g ∈ ps.map ftK, RtF g) := hid (by rw [← hps]; exact pickF_rt (fun q hq => HIB.out q (List.mem_of_mem_take hq)))
        have HNB : Hid (np ≤ 900) := hid (by
          have h := join_long _ RTP.out
          rw [List.length_map, HNQ.out, HZ3.out] at h
          omega)
        have HIL : Hid ((plF (ps.map ftK)).length = np) := hid (by rw [plF_length, List.length_map]; exact HNQ.out)
        have J0 := hid (JnS.start (z := (n3 : Int)) (q := (k, .slice yf L df, zs)) (P7 := M7) (g := (undef, undef, undef, undef)) HS9.out.kp HS9.out.r3 B8.out HS9.out.r4 HS9.out.r5)
        have HZL := hid HS9.out.len
        clear hps HS9 HS8 HS HN3 HNP HPL
        obtain ⟨Z3, hZ3⟩ : ∃ Z, joinF (ps.map ftK) = Z := ⟨_, rfl⟩
        obtain ⟨IS, hIS⟩ : ∃ Z, plF (ps.map ftK) = Z := ⟨_, rfl⟩
        have EZ := hid hZ3
        have EI := hid hIS
        rw [hZ3] at J0 HZ3
        rw [hIS] at J0 HIL
        clear hZ3 hIS
        go_upto_region 12 with fail
        refine region_ghost (g0 := ((undef, undef, undef, undef) : Value × Value × Value × Value)) [none, none, none, none, some 9, some 10, none, none, none, none, none, none, none, none, none, none, none, none, none, none, none, none, none, none, none, none, none, none, none, none, some 0, some 1, some 2, some 3, some 4, some 5, some 6, some 7, some 8, none, none, none, none, none, none, none, none, none, none, none, none, none, none, none, none, none, none, none, none, none, none, none, none, none, none, none, none, none, none, none, none, none, none, none, none, none, none, none, none, none, none, none, none, none, none, none, none, none] [[(4, none)], [(3, none)], [(31, some 1)], [(32, some 2)], [(30, some 0), (33, some 3)], [(5, none)], [(7, none)], [(36, some 6)], [(35, some 5), (37, some 7)], [(34, some 4)], [(38, some 8)]] [some 30, some 31, some 32, some 33, some 34, some 35, some 36, some 37, some 38, some 4, some 5] (fun g => [.slice y4 np d4, .slice y3 n3 d3, .int .i64 (n3 : Int), g.1, g.2.1, .slice y5 np d5, frV k (.slice yf L df), g.2.2.1, g.2.2.2, g.2.1, g.2.2.2]) [3, 4, 7, 8] (fun bs g wq => Hid (JnS w (.slice y4 np d4) (.slice y5 np d5) (.slice y3 n3 d3) Z3 IS ps (n3 : Int) (k, .slice yf L df, zs) M7 bs g wq)) (by kernel_rfl) (by kernel_rfl) (fun g => by kernel_rfl) (by kernel_rfl) ?hS (GFrom.all (n := 11) (by kernel_rfl) ?hstep) ?hend
        case hstep =>
          refine GFrom.cons (GStep.val _ rfl rfl _ rfl (fun g => .slice y4 np d4) (fun _ => rfl) (fun _ => trivial) (fun bs g ev wq hS he hr => ?_)) ?_
          · have r0 : ev (.tmp 4) = .slice y4 np d4 := hr (4, none) (by simp); have hk := he.1; clear hr he
            go_simp
          refine GFrom.cons (GStep.val _ rfl rfl _ rfl (fun g => .slice y3 n3 d3) (fun _ => rfl) (fun _ => trivial) (fun bs g ev wq hS he hr => ?_)) ?_
          · have r0 : ev (.tmp 3) = .slice y3 n3 d3 := hr (3, none) (by simp); have hk := he.1; clear hr he
            go_simp
          refine GFrom.cons (GStep.val _ rfl rfl _ rfl (fun g => .int .i64 (n3 : Int)) (fun _ => rfl) (fun _ => trivial) (fun bs g ev wq hS he hr => ?_)) ?_
          · have r0 : ev (.tmp 31) = .slice y3 n3 d3 := hr (31, some 1) (by simp); have hk := he.1; clear hr he
            go_simp
          refine GFrom.cons (GStep.make _ rfl _ rfl (fun _ => trivial) (fun Lx g ev wq hL hd hcl hS he hr => ?_)) ?_
          · have r0 : ev (.tmp 32) = .int .i64 (n3 : Int) := hr (32, some 2) (by simp); clear hr he
            have e : bitsAt [3, 4, 7, 8] Lx = [false, Lx 4, Lx 7, Lx 8] := by simp [bitsAt, hL]
            have e2 : bitsAt [3, 4, 7, 8] (upd Lx 3) = [true, Lx 4, Lx 7, Lx 8] := by simp [bitsAt, upd]
            rw [e] at hS
            exact ⟨.slice (some ⟨wq.heap.size, 0, none⟩) 1 1, (Value.slice (some ⟨wq.heap.size, 0, none⟩) 1 1, g.2), _, exec_buildSliceF (qs := #[(0, .int .i64 (n3 : Int))]) rfl (by simp [r0]) (fi_make wq (n3 : Int)), rfl, old_setF _ hL rfl, by rw [e2]; exact hid hS.out.made1⟩
          refine GFrom.cons (GStep.make _ rfl _ rfl (fun _ => trivial) (fun Lx g ev wq hL hd hcl hS he hr => ?_)) ?_
          · have r0 : ev (.tmp 30) = .slice y4 np d4 := hr (30, some 0) (by simp); have r1 : ev (.tmp 33) = g.1 := hr (33, some 3) (by simp); clear hr he
            have l3 : Lx 3 = true := hd 3 (by kernel_rfl)
            have l9 : Lx 9 = false := by cases h : Lx 9 with | false => rfl | true => (have := hcl 9 _ rfl h 4 (by kernel_rfl); rw [hL] at this; cases this)
            have e : bitsAt [3, 4, 7, 8] Lx = [true, false, Lx 7, Lx 8] := by simp [bitsAt, hL, l3]
            have e2 : bitsAt [3, 4, 7, 8] (upd Lx 4) = [true, true, Lx 7, Lx 8] := by simp [bitsAt, upd, l3]
            rw [e] at hS
            obtain ⟨B, hB, hB2⟩ := hS.out.ma rfl rfl
            obtain ⟨v', w', hrun, ho, hg⟩ := app_int (ty := 40) (hS.out.a0 rfl) hB2 (by rw [HIL.out]; have := HNB.out; omega) hS.out.kp.size
            exact ⟨v', (g.1, v', g.2.2), w', exec_append rfl r0 (r1.trans hB) hrun, rfl, old_set2F v' v' hL l9 rfl, by rw [e2]; exact hid (hS.out.put1 ho hg)⟩
          refine GFrom.cons (GStep.val _ rfl rfl _ rfl (fun g => .slice y5 np d5) (fun _ => rfl) (fun _ => trivial) (fun bs g ev wq hS he hr => ?_)) ?_
          · have r0 : ev (.tmp 5) = .slice y5 np d5 := hr (5, none) (by simp); have hk := he.1; clear hr he
            go_simp
          refine GFrom.cons (GStep.val _ rfl rfl _ rfl (fun g => frV k (.slice yf L df)) (fun _ => rfl) (fun _ => trivial) (fun bs g ev wq hS he hr => ?_)) ?_
          · have r0 : ev (.tmp 7) = .pointer (some ⟨M7, 0, none⟩) := hr (7, none) (by simp); have hk := he.1; clear hr he
            exact exec_load rfl r0 (fr_load hS.out.b7)
          refine GFrom.cons (GStep.make _ rfl _ rfl (fun _ => trivial) (fun Lx g ev wq hL hd hcl hS he hr => ?_)) ?_
          · have r0 : ev (.tmp 36) = frV k (.slice yf L df) := hr (36, some 6) (by simp); clear hr he
            have e : bitsAt [3, 4, 7, 8] Lx = [Lx 3, Lx 4, false, Lx 8] := by simp [bitsAt, hL]
            have e2 : bitsAt [3, 4, 7, 8] (upd Lx 7) = [Lx 3, Lx 4, true, Lx 8] := by simp [bitsAt, upd]
            rw [e] at hS
            exact ⟨.slice (some ⟨wq.heap.size, 0, none⟩) 1 1, (g.1, g.2.1, Value.slice (some ⟨wq.heap.size, 0, none⟩) 1 1, g.2.2.2), _, exec_buildSliceF (qs := #[(0, frV k (.slice yf L df))]) rfl (by simp [r0]) (ff_make wq k yf L df), rfl, old_setF _ hL rfl, by rw [e2]; exact hid hS.out.made2⟩
          refine GFrom.cons (GStep.make _ rfl _ rfl (fun _ => trivial) (fun Lx g ev wq hL hd hcl hS he hr => ?_)) ?_
          · have r0 : ev (.tmp 35) = .slice y5 np d5 := hr (35, some 5) (by simp); have r1 : ev (.tmp 37) = g.2.2.1 := hr (37, some 7) (by simp); clear hr he
            have l7 : Lx 7 = true := hd 7 (by kernel_rfl)
            have l10 : Lx 10 = false := by cases h : Lx 10 with | false => rfl | true => (have := hcl 10 _ rfl h 8 (by kernel_rfl); rw [hL] at this; cases this)
            have e : bitsAt [3, 4, 7, 8] Lx = [Lx 3, Lx 4, true, false] := by simp [bitsAt, hL, l7]
            have e2 : bitsAt [3, 4, 7, 8] (upd Lx 8) = [Lx 3, Lx 4, true, true] := by simp [bitsAt, upd, l7]
            rw [e] at hS
            obtain ⟨B, hB, hB2⟩ := hS.out.mb rfl rfl
            obtain ⟨v', w', hrun, ho, hg⟩ := app_fr (ty := 41) (hS.out.b0 rfl) hB2 (by rw [HNQ.out]; have := HNB.out; omega) hS.out.kp.size
            exact ⟨v', (g.1, g.2.1, g.2.2.1, v'), w', exec_append rfl r0 (r1.trans hB) hrun, rfl, old_set2F v' v' hL l10 rfl, by rw [e2]; exact hid (hS.out.put2 (hg.block M7 hS.out.b7.lt (fun e => NE7.out e.symm)) ho hg)⟩
          refine GFrom.cons (GStep.val _ rfl rfl _ rfl (fun g => g.2.1) (fun _ => rfl) (fun _ => trivial) (fun bs g ev wq hS he hr => ?_)) ?_
          · have r0 : ev (.tmp 34) = g.2.1 := hr (34, some 4) (by simp); have hk := he.1; clear hr he
            go_simp
          refine GFrom.cons (GStep.val _ rfl rfl _ rfl (fun g => g.2.2.2) (fun _ => rfl) (fun _ => trivial) (fun bs g ev wq hS he hr => ?_)) ?_
          · have r0 : ev (.tmp 38) = g.2.2.2 := hr (38, some 8) (by simp); have hk := he.1; clear hr he
            go_simp
          exact GFrom.nil
        case hS => exact J0
        case hend =>
          intro g w9 h9
          obtain ⟨v30, v4', v37, v5'⟩ := g
          have j9 := h9.out
          have HR3 := hid j9.r3
          have B9 := hid j9.b7
          have HR4 : Hid (w9.ownsRow w.heap.size 3 1 v4' (IS ++ [(n3 : Int)]).length ((IS ++ [(n3 : Int)]).map (Value.int .i64))) := hid (j9.a1 rfl)
          have HR5 : Hid (w9.ownsRow w.heap.size 24 2 v5' (ps ++ [((k, .slice yf L df, zs) : FrT)]).length ((ps ++ [((k, .slice yf L df, zs) : FrT)]).flatMap ftL)) := hid (j9.b1 rfl)
          have K9 := hid j9.kp
          clear h9 j9 J0
          simp only [putAll, List.zip_cons_cons, List.zip_nil_right, List.foldl_cons, List.foldl_nil, Act.put, List.setIfInBounds_toArray, List.set_cons_zero, List.set_cons_succ]
          have p0 := B9.out.cell 0
          have p1 := B9.out.cell 1
          simp only [List.getElem?_cons_zero, List.getElem?_cons_succ] at p0 p1
          have hrz : rightF k zs.length = true := by rw [HL.out]; exact HBR.out
          obtain ⟨F, hF⟩ : ∃ F, frameF k zs = F := ⟨_, rfl⟩
          obtain ⟨nF, hnF⟩ : ∃ n, F.length = n := ⟨_, rfl⟩
          have HF := hid hF
          have HNF := hid hnF
          have BFZ : Hid (IsBytes F) := hid (by rw [← hF]; exact frame_bytes k zs HBQ.out.1 hrz)
          have HFB : Hid (nF ≤ 2061) := hid (by
            have h := frame_length k zs hrz
            have rp := right_parts hrz
            have h3 := sizeN_3 zs.length (by omega) (by omega)
            rw [hF, hnF] at h
            unfold costF at h
            rw [if_pos (by omega)] at h
            omega)
          have CP : Hid (∀ w, BySl Nb w (.slice yf L df) zs → Calls Try.prog 13 #[frV k (.slice yf L df)] w fun e w' => ∃ r, e = .returned r ∧ w'.ownsRow w.heap.size 5 1 r nF (F.map (Value.int .u8)) ∧ Kp Nb w w') := hid (fun w hv => by
            have h := fput_yes k _ zs w hv hrz
            rw [hF, hnF] at h
            exact h)
          clear hF hnF hrz
          go_wp2_with fail
          refine (CP.out _ (HBQ.out.kept (K9.out) (fun _ h => h))).mono ?_
          rintro e w10 ⟨r, rfl, ow, k10⟩
          have BR : Hid (BySl Nb w10 r F) := hid (BySl.ofOwn (base := w9.heap.size) (by rw [HNF.out]; exact ow) BFZ.out (fun _ _ _ h => h))
          obtain ⟨yr, dr, rfl⟩ := own_shape ow
          have FR := hid (rows_by BR.out)
          have HR3' := hid (ownsRow_kpn HR3.out k10)
          have HR4' := hid (ownsRow_kpn HR4.out k10)
          have HR5' := hid (ownsRow_kpn HR5.out k10)
          have K10 := hid (K9.out.trans k10 (fun _ _ h => h))
          obtain ⟨i0, z0, hi, hz0, hz1, hz2, hz3⟩ := byte_info3
          have LL : Hid (Z3.length + F.length ≤ maxLen ∧ (Z3.length + F.length) * 1 ≤ 140737488355328) := hid (by rw [HZ3.out, HNF.out]; have := HFB.out; unfold maxLen; omega)
          clear ow k10 HR3 HR4 HR5 K9 BR CP p0 p1
          go_wp2_with (at_builtin; refine wpList_append_rows (f := bF) (z := 0) (c := 1) rfl _ _ 22 rfl w.heap.size 5 i0 z0 1 Try.underlying22 hi hz0 hz1 hz2 hz3 (by decide) _ _ _ rfl HR3'.out _ F rfl FR.out (fun q _ => rfl) (fun q _ u hu => by rw [List.mem_singleton.1 hu]; rfl) LL.out.1 LL.out.2 K10.out.size ?_)
          intro v11 w11 hown hgrow
          have RE : Hid (JoR w l (.int .i64 ((j : Int) + 1)) v11 v4' v5' w11) := hid (by
            refine ⟨j + 1, by have := HN.out; omega, by go_num, hid ?_⟩
            rw [HP.out]
            have e1 : (ps ++ [((k, .slice yf L df, zs) : FrT)]).map ftK = ps.map ftK ++ [(k, zs)] := by rw [List.map_append]; rfl
            have e2 : joinF (ps.map ftK ++ [(k, zs)]) = Z3 ++ F := by rw [joinF_append, EZ.out, joinF_cons, joinF_nil, List.append_nil, HF.out]
            refine ⟨kp_grown HR3'.out hgrow rfl K10.out, ?_, ?_, grown_row HR3'.out hgrow HR5'.out (by decide), ?_⟩
            · rw [e1, e2, List.length_append, List.map_append, ← flat_bytes F]
              exact hown
            · have e3 : plF (ps.map ftK ++ [(k, zs)]) = IS ++ [(n3 : Int)] := by rw [plF_snoc, EI.out, EZ.out, HZ3.out]
              rw [e1, e3]
              exact grown_row HR3'.out hgrow HR4'.out (by decide)
            · rw [e1, e2, List.length_append, HZ3.out, HNF.out]
              have := HFB.out
              have := HL2.out
              omega)
          clear hown hgrow HR3' HR4' HR5' K10 FR LL hi hz0 hz1 hz2 hz3
          go_wp2
          go_roundw
          case rel => exact RE.out
          case measure => simp [intOf]; omega
    · have ejn : j = n := by omega
      subst ejn
      obtain ⟨ps, hps⟩ : ∃ ps, pickF l = ps := ⟨_, rfl⟩
      have htk : l.take j = l := List.take_of_length_le (by have := HN.out; omega)
      have RTP : Hid (∀ g ∈ ps.map ftK, RtF g) := hid (by rw [← hps]; exact pickF_rt HIB.out)
      have HBP : Hid (∀ q ∈ ps, BySl Nb w q.2.1 q.2.2) := hid (fun q hq => HBY.out q (by rw [← hps] at hq; exact (List.mem_filter.1 hq).1))
      obtain ⟨np, hnp⟩ : ∃ m, ps.length = m := ⟨_, rfl⟩
      have HNP := hid hnp
      have HIL : Hid ((plF (ps.map ftK)).length = np) := hid (by rw [plF_length, List.length_map, hnp])
      rw [htk, hps]
      have S0 : JoS w ps (.slice y3 (joinF (ps.map ftK)).length d3) (.slice y4 np d4) (.slice y5 np d5) wr := by
        have h := HS.out
        rw [htk, hps] at h
        rw [HIL.out, hnp] at h
        exact h
      have HNB : Hid (np ≤ 900) := hid (by
        have h := join_long _ RTP.out
        rw [List.length_map, hnp] at h
        have := S0.len
        omega)
      rw [HIL.out, hnp]
      have BV : Hid (BySl Nb wr (.slice y3 (joinF (ps.map ftK)).length d3) (joinF (ps.map ftK))) := hid (BySl.ofOwn S0.r3 (joinF_bytes _ RTP.out) (fun _ _ _ h => h))
      have Q4 : Hid (RowsSl (fun z => [Value.int .i64 z]) 0 1 wr (.slice y4 np d4) (plF (ps.map ftK))) := hid (rows_owned (base := w.heap.size) (e := 3) (by rw [flat_ints]; exact S0.r4) (fun _ _ => rfl))
      have Q5 : Hid (RowsSl ftL ftZ 2 wr (.slice y5 np d5) ps) := hid (rows_owned S0.r5 (fun _ _ => rfl))
      have LZ : Hid ((joinF (ps.map ftK)).length ≤ 8061) := hid S0.len
      have KW := hid S0.kp
      clear S0 HS htk hps hnp
      obtain ⟨n3, hn3⟩ : ∃ n3, (joinF (ps.map ftK)).length = n3 := ⟨_, rfl⟩
      rw [hn3] at BV ⊢
      clear hn3
      go_wp2_with fail
      refine (fall_rows _ _ 1000 _ BV.out (by have := LZ.out; omega)).mono ?_
      rintro e w2 ⟨v1, v2, xs, rfl, r1, r2, hsp, hle, k2⟩
      have hxl : xs.length = np := by
        have h := found_join RTP.out hsp (by rw [List.length_map, HNP.out]; have := HNB.out; omega) hle
        rw [h, List.length_map, HNP.out]
      obtain ⟨y1, d1, rfl⟩ := r1.shape
      obtain ⟨y2, d2, rfl⟩ := r2.shape
      have R1 := hid r1
      have R2 := hid r2
      have HSP := hid hsp
      have HXL := hid hxl
      rw [hxl] at R1 R2
      have Q4' := hid (Q4.out.kept k2)
      have Q5' := hid (Q5.out.kept k2)
      have K2 := hid (KW.out.trans k2 (fun _ _ h => h))
      rw [hxl]
      clear r1 r2 hsp hle k2 hxl Q4 Q5 KW BV LZ
      go_wp2
      go_loopw [63] (JtR w2 np) (fun i _ => np - (intOf i).toNat)
      case atStart => exact ⟨0, Nat.zero_le _, rfl, hid (Kp.refl _ _)⟩
      case round =>
        obtain ⟨m, hm, rfl, HK⟩ := hrel
        by_cases hlt : m < np
        · obtain ⟨g1, o1, c1, e1, n1, m1, q1⟩ := rows_pos R1.out HXL.out (by omega)
          obtain ⟨g2, o2, c2, e2, n2, m2, q2⟩ := rows_pos R2.out HXL.out (by omega)
          obtain ⟨g4, o4, c4, e4, n4, m4, q4⟩ := rows_pos Q4'.out HIL.out (by omega)
          obtain ⟨g5, o5, c5, e5, n5, m5, q5⟩ := rows_pos Q5'.out HNP.out (by omega)
          injection e1 with a1 a2 a3
          injection e2 with b1 b2 b3
          injection e4 with r1 r2 r3
          injection e5 with s1 s2 s3
          subst a1 a3 b1 b3 r1 r3 s1 s3
          clear a2 b2 r2 s2
          obtain ⟨⟨kq, vq, zq⟩, hpe⟩ : ∃ q, ps[m]? = some q := ⟨_, List.getElem?_eq_getElem (by have := HNP.out; omega)⟩
          obtain ⟨⟨px, kx, yx, nx, dx⟩, hxe⟩ : ∃ x, xs[m]? = some x := ⟨_, List.getElem?_eq_getElem (by have := HXL.out; omega)⟩
          have hKm : (ps.map ftK)[m]? = some (kq, zq) := by rw [List.getElem?_map, hpe]; rfl
          have hml : m < (ps.map ftK).length := (List.getElem?_eq_some_iff.1 hKm).1
          have hKe : (ps.map ftK)[m] = (kq, zq) := (List.getElem?_eq_some_iff.1 hKm).2
          obtain ⟨x1, x2, x3, -⟩ := HSP.out.2 m _ hxe
          rw [at_join RTP.out m (by omega)] at x1
          rw [fr_join RTP.out m hml, hKe] at x2 x3
          dsimp only at x1 x2 x3
          have hpl := plF_at (ps.map ftK) m hml
          rw [← x1] at hpl
          have hbq := HBP.out _ (List.mem_of_getElem? hpe)
          dsimp only at hbq
          obtain ⟨yq, dq, rfl⟩ := hbq.shp
          obtain ⟨Lq, hLq⟩ : ∃ L, zq.length = L := ⟨_, rfl⟩
          rw [hLq] at hbq hpe
          obtain ⟨y', d', e'⟩ := x3.shp
          rw [hLq] at e'
          injection e' with u1 u2 u3
          subst x2 u1 u2 u3
          have t1 := q1 m hlt
          have t2 := q2 m hlt
          have t4 := q4 m hlt
          have t5 := q5 m hlt
          rw [hxe] at t1 t2
          rw [hpl] at t4
          rw [hpe] at t5
          have C1 : Hid (w2.cell? ⟨g1, o1 + m, none⟩ = some (.int .i64 (px : Int))) := hid (by have h := t1 0 _ rfl; rw [Nat.mul_one] at h; exact h)
          have C4 : Hid (w2.cell? ⟨g4, o4 + m, none⟩ = some (.int .i64 (px : Int))) := hid (by have h := t4 0 _ rfl; rw [Nat.mul_one] at h; exact h)
          have R2' : Hid (w2.rangeAt g2 (o2 + m * 2) (frL kx (.slice yx nx dx))) := hid t2
          have R5' : Hid (w2.rangeAt g5 (o5 + m * 2) (frL kx (.slice yq nx dq))) := hid t5
          have BX : Hid (BySl Nb w2 (.slice yx nx dx) zq) := hid x3
          have BQ : Hid (BySl Nb w2 (.slice yq nx dq) zq) := hid (hbq.kept K2.out (fun _ h => h))
          have CS : Hid (∀ u v wq, BySl Nb wq u zq → BySl Nb wq v zq → Calls Try.prog 14 #[frV kx u, frV kx v] wq fun e w' => e = .returned (.bool true) ∧ Kp Nb wq w') := hid (fun u v wq h1 h2 => by
            have h := fsame_any kx kx u v zq zq wq h1 h2
            rw [show sameF kx kx zq zq = true from by simp [sameF]] at h
            exact h)
          unfold maxLen at m1 m2 m4 m5
          have BD := hid (show m < np ∧ np ≤ 900 from ⟨hlt, HNB.out⟩)
          have BN := hid (show np ≤ d1 ∧ np ≤ d2 ∧ np ≤ d4 ∧ np ≤ d5 from ⟨n1, n2, n4, n5⟩)
          clear x1 x3 hpl hbq hLq t1 t2 t4 t5 q1 q2 q4 q5 hxe hpe hKm hml hKe m1 m2 m4 m5 n1 n2 n4 n5
          go_upto_region 21 with fail
          refine region_vals2 [none, none, none, none, none, none, none, none, none, none, none, none, none, none, none, none, none, none, none, none, none, none, none, none, none, none, none, none, none, none, none, none, none, none, none, none, none, none, none, none, none, none, none, none, none, none, none, none, none, none, none, none, none, none, none, none, none, none, none, none, none, none, none, none, none, none, some 0, some 1, some 2, some 3, some 4, some 5, some 6, some 7, some 8, some 9, some 10, some 11, some 12, some 13, some 14, some 15, some 16, some 17, some 18, some 19, some 20, none] [[(8, none)], [(10, none)], [(66, some 0), (67, some 1)], [(68, some 2)], [(4, none)], [(10, none)], [(70, some 4), (71, some 5)], [(72, some 6)], [(69, some 3), (73, some 7)], [(74, some 8)], [(9, none)], [(10, none)], [(76, some 10), (77, some 11)], [(78, some 12)], [(5, none)], [(10, none)], [(80, some 14), (81, some 15)], [(82, some 16)], [(79, some 13), (83, some 17)], [(84, some 18)], [(75, some 9), (85, some 19)]] [some 66, some 67, some 68, some 69, some 70, some 71, some 72, some 73, some 74, some 75, some 76, some 77, some 78, some 79, some 80, some 81, some 82, some 83, some 84, some 85, some 86] [.slice (some ⟨g1, o1, none⟩) np d1, .int .i64 (m : Int), .pointer (some ⟨g1, o1 + m, none⟩), .int .i64 (px : Int), .slice (some ⟨g4, o4, none⟩) np d4, .int .i64 (m : Int), .pointer (some ⟨g4, o4 + m, none⟩), .int .i64 (px : Int), .bool false, .bool false, .slice (some ⟨g2, o2, none⟩) np d2, .int .i64 (m : Int), .pointer (some ⟨g2, o2 + m * 2, none⟩), frV kx (.slice yx nx dx), .slice (some ⟨g5, o5, none⟩) np d5, .int .i64 (m : Int), .pointer (some ⟨g5, o5 + m * 2, none⟩), frV kx (.slice yq nx dq), .bool true, .bool false, .bool false] (fun w' => Hid (Kp Nb w2 w')) (by kernel_rfl) (by kernel_rfl) (by kernel_rfl) ?hS (VFrom.all (n := 21) (by kernel_rfl) ?hstep) ?hend
          case hstep =>
            refine VFrom.cons (VStep.val _ rfl _ rfl (.slice (some ⟨g1, o1, none⟩) np d1) rfl trivial (fun ev wq hS he hr => ?_)) ?_
            · have r0 : ev (.tmp 8) = .slice (some ⟨g1, o1, none⟩) np d1 := hr (8, none) (by simp); have hk := he.1; clear hr he
              go_simp
            refine VFrom.cons (VStep.val _ rfl _ rfl (.int .i64 (m : Int)) rfl trivial (fun ev wq hS he hr => ?_)) ?_
            · have r0 : ev (.tmp 10) = .int .i64 (m : Int) := hr (10, none) (by simp); have hk := he.1; clear hr he
              go_simp
            refine VFrom.cons (VStep.val _ rfl _ rfl (.pointer (some ⟨g1, o1 + m, none⟩)) rfl trivial (fun ev wq hS he hr => ?_)) ?_
            · have r0 : ev (.tmp 66) = .slice (some ⟨g1, o1, none⟩) np d1 := hr (66, some 0) (by simp); have r1 : ev (.tmp 67) = .int .i64 (m : Int) := hr (67, some 1) (by simp); have hk := he.1; clear hr he
              have e1 := BD.out; have e2 := BN.out
              go_simp
            refine VFrom.cons (VStep.val _ rfl _ rfl (.int .i64 (px : Int)) rfl trivial (fun ev wq hS he hr => ?_)) ?_
            · have r0 : ev (.tmp 68) = .pointer (some ⟨g1, o1 + m, none⟩) := hr (68, some 2) (by simp); have hk := he.1; clear hr he
              have c0 := hS.out.cell C1.out (fun h => h)
              go_simp
            refine VFrom.cons (VStep.val _ rfl _ rfl (.slice (some ⟨g4, o4, none⟩) np d4) rfl trivial (fun ev wq hS he hr => ?_)) ?_
            · have r0 : ev (.tmp 4) = .slice (some ⟨g4, o4, none⟩) np d4 := hr (4, none) (by simp); have hk := he.1; clear hr he
              go_simp
            refine VFrom.cons (VStep.val _ rfl _ rfl (.int .i64 (m : Int)) rfl trivial (fun ev wq hS he hr => ?_)) ?_
            · have r0 : ev (.tmp 10) = .int .i64 (m : Int) := hr (10, none) (by simp); have hk := he.1; clear hr he
              go_simp
            refine VFrom.cons (VStep.val _ rfl _ rfl (.pointer (some ⟨g4, o4 + m, none⟩)) rfl trivial (fun ev wq hS he hr => ?_)) ?_
            · have r0 : ev (.tmp 70) = .slice (some ⟨g4, o4, none⟩) np d4 := hr (70, some 4) (by simp); have r1 : ev (.tmp 71) = .int .i64 (m : Int) := hr (71, some 5) (by simp); have hk := he.1; clear hr he
              have e1 := BD.out; have e2 := BN.out
              go_simp
            refine VFrom.cons (VStep.val _ rfl _ rfl (.int .i64 (px : Int)) rfl trivial (fun ev wq hS he hr => ?_)) ?_
            · have r0 : ev (.tmp 72) = .pointer (some ⟨g4, o4 + m, none⟩) := hr (72, some 6) (by simp); have hk := he.1; clear hr he
              have c0 := hS.out.cell C4.out (fun h => h)
              go_simp
            refine VFrom.cons (VStep.val _ rfl _ rfl (.bool false) rfl trivial (fun ev wq hS he hr => ?_)) ?_
            · have r0 : ev (.tmp 69) = .int .i64 (px : Int) := hr (69, some 3) (by simp); have r1 : ev (.tmp 73) = .int .i64 (px : Int) := hr (73, some 7) (by simp); have hk := he.1; clear hr he
              go_simp
            refine VFrom.cons (VStep.val _ rfl _ rfl (.bool false) rfl trivial (fun ev wq hS he hr => ?_)) ?_
            · have r0 : ev (.tmp 74) = .bool false := hr (74, some 8) (by simp); have hk := he.1; clear hr he
              go_simp
            refine VFrom.cons (VStep.val _ rfl _ rfl (.slice (some ⟨g2, o2, none⟩) np d2) rfl rfl (fun ev wq hS he hr => ?_)) ?_
            · have r0 : ev (.tmp 9) = .slice (some ⟨g2, o2, none⟩) np d2 := hr (9, none) (by simp); have hk := he.1; clear hr he
              go_simp
            refine VFrom.cons (VStep.val _ rfl _ rfl (.int .i64 (m : Int)) rfl rfl (fun ev wq hS he hr => ?_)) ?_
            · have r0 : ev (.tmp 10) = .int .i64 (m : Int) := hr (10, none) (by simp); have hk := he.1; clear hr he
              go_simp
            refine VFrom.cons (VStep.val _ rfl _ rfl (.pointer (some ⟨g2, o2 + m * 2, none⟩)) rfl rfl (fun ev wq hS he hr => ?_)) ?_
            · have r0 : ev (.tmp 76) = .slice (some ⟨g2, o2, none⟩) np d2 := hr (76, some 10) (by simp); have r1 : ev (.tmp 77) = .int .i64 (m : Int) := hr (77, some 11) (by simp); have hk := he.1; clear hr he
              have e1 := BD.out; have e2 := BN.out
              go_simp
            refine VFrom.cons (VStep.val _ rfl _ rfl (frV kx (.slice yx nx dx)) rfl rfl (fun ev wq hS he hr => ?_)) ?_
            · have r0 : ev (.tmp 78) = .pointer (some ⟨g2, o2 + m * 2, none⟩) := hr (78, some 12) (by simp); have hk := he.1; clear hr he
              exact exec_load rfl r0 (frr_load (rngf_kept R2'.out hS.out))
            refine VFrom.cons (VStep.val _ rfl _ rfl (.slice (some ⟨g5, o5, none⟩) np d5) rfl rfl (fun ev wq hS he hr => ?_)) ?_
            · have r0 : ev (.tmp 5) = .slice (some ⟨g5, o5, none⟩) np d5 := hr (5, none) (by simp); have hk := he.1; clear hr he
              go_simp
            refine VFrom.cons (VStep.val _ rfl _ rfl (.int .i64 (m : Int)) rfl rfl (fun ev wq hS he hr => ?_)) ?_
            · have r0 : ev (.tmp 10) = .int .i64 (m : Int) := hr (10, none) (by simp); have hk := he.1; clear hr he
              go_simp
            refine VFrom.cons (VStep.val _ rfl _ rfl (.pointer (some ⟨g5, o5 + m * 2, none⟩)) rfl rfl (fun ev wq hS he hr => ?_)) ?_
            · have r0 : ev (.tmp 80) = .slice (some ⟨g5, o5, none⟩) np d5 := hr (80, some 14) (by simp); have r1 : ev (.tmp 81) = .int .i64 (m : Int) := hr (81, some 15) (by simp); have hk := he.1; clear hr he
              have e1 := BD.out; have e2 := BN.out
              go_simp
            refine VFrom.cons (VStep.val _ rfl _ rfl (frV kx (.slice yq nx dq)) rfl rfl (fun ev wq hS he hr => ?_)) ?_
            · have r0 : ev (.tmp 82) = .pointer (some ⟨g5, o5 + m * 2, none⟩) := hr (82, some 16) (by simp); have hk := he.1; clear hr he
              exact exec_load rfl r0 (frr_load (rngf_kept R5'.out hS.out))
            refine VFrom.cons (VStep.call _ rfl _ rfl (.bool true) rfl rfl 14 #[frV kx (.slice yx nx dx), frV kx (.slice yq nx dq)] (fun ev wq hS he hr => ?_) (fun wq hS => ?_)) ?_
            · have r0 : ev (.tmp 79) = frV kx (.slice yx nx dx) := hr (79, some 13) (by simp); have r1 : ev (.tmp 83) = frV kx (.slice yq nx dq) := hr (83, some 17) (by simp); have hk := he.1; have hf := he.2; clear hr he
              go_simp
            · exact (CS.out _ _ wq (BX.out.kept hS.out (fun _ h => h)) (BQ.out.kept hS.out (fun _ h => h))).mono fun e w' ⟨h1, h2⟩ => ⟨h1, hid (hS.out.trans h2 (fun _ _ h => h))⟩
            refine VFrom.cons (VStep.val _ rfl _ rfl (.bool false) rfl rfl (fun ev wq hS he hr => ?_)) ?_
            · have r0 : ev (.tmp 84) = .bool true := hr (84, some 18) (by simp); have hk := he.1; clear hr he
              go_simp
            refine VFrom.cons (VStep.val _ rfl _ rfl (.bool false) rfl trivial (fun ev wq hS he hr => ?_)) ?_
            · have r0 : ev (.tmp 75) = .bool false := hr (75, some 9) (by simp); have r1 : ev (.tmp 85) = .bool false := hr (85, some 19) (by simp); have hk := he.1; clear hr he
              go_simp
            exact VFrom.nil
          case hS => exact hid HK.out.drew
          case hend =>
            intro wy hy
            have K9 := hid hy.out
            clear hy
            have hb1 := BD.out.1
            have hb2 := BD.out.2
            simp only [putAll, List.zip_cons_cons, List.zip_nil_right, List.foldl_cons, List.foldl_nil, Act.put, List.setIfInBounds_toArray, List.set_cons_zero, List.set_cons_succ]
            go_wp2
            go_roundw
            case rel => exact ⟨m + 1, by have := BD.out; omega, by go_num, K9⟩
            case measure => simp [intOf]; have := BD.out; omega
        · obtain rfl : m = np := by omega
          have K9 := hid (K2.out.trans HK.out (fun _ _ h => h))
          go_wp2
          go_ret
          exact ⟨rfl, K9.out⟩

end Go.Proofs.Ytmgmghlflldepaa
