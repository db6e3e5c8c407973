/-
  Layer 11: walks of Add and Remove. Conditions: cells and marks are what their kinds hold; a size that may be. (Printed by gen_ib.py.)
-/
import Derived.Test.YteedceepoindeaaIbC
namespace Go.Proofs.Yteedceepoindeaa
open Go.RowKit

def updP (g : Cel → Cel → Cel) (t : Nat) (m : List Int) (cs : List Cel) : Nat → List Cel
  | 0 => cs
  | k + 1 => (updP g t m cs k).set (plc t m k) (g (celAt (updP g t m cs k) (plc t m k)) (ofC m))
theorem updP_length (g : Cel → Cel → Cel) (t : Nat) (m : List Int) (cs : List Cel) : ∀ k, (updP g t m cs k).length = cs.length
  | 0 => rfl
  | k + 1 => by rw [updP, List.length_set, updP_length g t m cs k]
theorem updP_ok {g : Cel → Cel → Cel} (hg : ∀ x y, CelOk (g x y)) (t : Nat) (m : List Int) {cs : List Cel} (ho : AllOk cs) : ∀ k, AllOk (updP g t m cs k)
  | 0 => ho
  | k + 1 => (updP_ok hg t m ho k).set _ (hg _ _)
theorem idx_arr3 (a b c : Int) (w : World) : (Instr.index 31 (.agg #[.int .i64 a, .int .i64 b, .int .i64 c]) (.int .i64 0)).run Try.prog w = .ok (.int .i64 a) w ∧ (Instr.index 31 (.agg #[.int .i64 a, .int .i64 b, .int .i64 c]) (.int .i64 1)).run Try.prog w = .ok (.int .i64 b) w ∧ (Instr.index 31 (.agg #[.int .i64 a, .int .i64 b, .int .i64 c]) (.int .i64 2)).run Try.prog w = .ok (.int .i64 c) w := by
  refine ⟨?_, ?_, ?_⟩
  · kernel_rfl
  · kernel_rfl
  · kernel_rfl
theorem idx_plc (t : Nat) (m : List Int) (k : Nat) (hk : k < 3) (w : World) : (Instr.index 31 (plcV t m) (.int .i64 (k : Int))).run Try.prog w = .ok (.int .i64 ((plc t m k : Nat) : Int)) w := by
  have e : plcL t m 3 = [.int .i64 ((plc t m 0 : Nat) : Int), .int .i64 ((plc t m 1 : Nat) : Int), .int .i64 ((plc t m 2 : Nat) : Int)] := by unfold plcL; simp
  have h := idx_arr3 (plc t m 0 : Nat) (plc t m 1 : Nat) (plc t m 2 : Nat) w
  unfold plcV
  rw [e]
  rcases k with _ | _ | _ | k
  · exact h.1
  · exact h.2.1
  · exact h.2.2
  · omega
/-- A cell stored into a row of cells, at the end of a region. -/
theorem cv_put {C o : Nat} {w' : World} {x : Cel} {op : Oper} {ad v : Operand} {a : Act} (hx : CelOk x) (ht : w'.there C o 18)
    (ho : op.op = .store 41 ad v) (ha : a.eval ad = .pointer (some ⟨C, o, none⟩)) (hv : a.eval v = cv x) {Q : Exit → Act → World → Prop}
    (h : Q .normal (a.put op.dst undef) (w'.setCells C o (cl x))) : Oper.wp Try.prog op a w' (fun a w => Q .normal a w) Q :=
  wp_store_mid 41 ad v ho C o (cl x).toArray ha hv (by rw [List.size_toArray, cl_length hx]; exact ht) (cell_sized hx) (all_oneCell_toArray (cellL_one _ _ _)) h
def UpdR (w4 : World) (C : Nat) (rest : List Value) (cs : Nat → List Cel) (i : Value) (wr : World) : Prop := ∃ k : Nat, k ≤ 3 ∧ i = .int .i64 k ∧ Hid (Blk wr C 41 (rws (cs k) ++ rest)) ∧ Hid (Kp (Jb C) w4 wr)

set_option maxRecDepth 100000 in
set_option maxHeartbeats 4000000 in
theorem kadd_any (B C t : Nat) (cs : List Cel) (m : List Int) (w : World) (h : SkAt w B C cs) (hm : MarkOk m) (hn : cs.length = 3 * t) (h1 : t ≤ 512) :
    Calls Try.prog 18 #[.pointer (some ⟨B, 0, none⟩), markV m] w fun e w' => e = .returned (.tuple #[]) ∧ SkAt w' B C (updP addC t m cs 3) ∧ Kp (Jb C) w w' := by
  have hpos : 0 < t := by have := h.pos; omega
  obtain ⟨cap, rest, hb, hc, hn1, hn2⟩ := h.at'
  have HNE := hid h.ne
  have HOK := hid h.ok
  have HM := hid hm
  obtain ⟨n, hnn⟩ : ∃ n, n = cs.length := ⟨_, rfl⟩
  have HNN := hid hnn
  rw [← hnn] at hb hn1 hn
  have HCAP := hid (show n ≤ cap ∧ cap ≤ maxLen from ⟨hn1, hn2⟩)
  have HN3 := hid hn
  have HT : Hid (0 < t ∧ t ≤ 512) := hid ⟨hpos, h1⟩
  have HB := hid hb
  have HC := hid hc
  have LB := hid hb.lt
  have LC := hid hc.lt
  have hcm : cap ≤ 9223372036854775807 := by unfold maxLen at hn2; omega
  have hncap : n ≤ cap := hn1
  obtain ⟨X, hX⟩ : ∃ X, X = ofC m := ⟨_, rfl⟩
  have XO : Hid (CelOk X) := hid (by rw [hX]; exact ofC_ok hm)
  have CO : Hid (∀ w, Calls Try.prog 43 #[markV m] w fun e w' => e = .returned (cv X) ∧ Kp Nb w w') := hid (fun w => by rw [hX]; exact cof_c m w HM.out)
  have CPL : Hid (∀ w, Calls Try.prog 13 #[.int .i64 (n : Int), markV m] w fun e w' => e = .returned (plcV t m) ∧ Kp Nb w w') := hid (fun w => by
    have h := places_any t m w HM.out hpos h1
    rw [← hn] at h
    exact h)
  have H3 := hid (Blk.new w 23 (markL m))
  have B3 := hid (hb.alloc (.cells (markL m).toArray 23))
  have C3 := hid (hc.alloc (.cells (markL m).toArray 23))
  have K3 := hid ((Kp.refl (Jb C) w).alloc (.cells (markL m).toArray 23))
  have HXE := hid hX
  clear h hm hb hc hn1 hn2 hnn hn hX h1 hpos
  go_enter Try.func18, Try.ntmps18
  go_wp2_with (refine wpList_load_mid (by rfl) 23 (.tmp 3) (by rfl) w.heap.size 0 (by rfl) (markL m) _ (range_of H3.out) under_mark rfl (mark_infoL m HM.out.len) ?_)
  obtain ⟨N, hN⟩ : ∃ N, w.heap.size = N := ⟨_, rfl⟩
  rw [hN] at H3 LB LC ⊢
  have HNW := hid hN
  clear hN
  refine (CO.out _).mono ?_
  rintro e w1 ⟨rfl, k1⟩
  have hz := Blk.new w1 41 (cl c0)
  obtain ⟨M, hM⟩ : ∃ M, M = w1.heap.size := ⟨_, rfl⟩
  obtain ⟨W, hW⟩ : ∃ W, W = (w1.alloc (.cells (cl c0).toArray 41)).setCells w1.heap.size 0 (cl X) := ⟨_, rfl⟩
  have kW : Kp Nb w1 W := by rw [hW]; exact Kp.setCells (fun h => absurd h (Nat.lt_irrefl _)) _ 0 _ ((Kp.refl Nb w1).alloc _)
  have TH := hid (cell_there hz (cl_length c0_ok) XO.out)
  have SI := hid (cell_sized XO.out)
  have ON := hid (all_oneCell_toArray (cellL_one X.1 X.2.1 X.2.2))
  have H4 : Hid (Blk W M 41 (cl X)) := hid (by rw [hW, hM]; exact row_set hz (by rw [cl_length c0_ok, cl_length XO.out]))
  have kk := k1.trans kW (fun _ _ h => h)
  have H5 := hid (H3.out.kept kk (fun h => h))
  have B5 := hid (B3.out.kept kk (fun h => h))
  have C5 := hid (C3.out.kept kk (fun h => h))
  have K5 := hid (K3.out.trans kk (fun _ _ h => h.elim))
  have LM : Hid (N < M ∧ B < M ∧ C < M) := hid (by have a := (H3.out.kept k1 (fun h => h)).lt; have b := LB.out; have c := LC.out; rw [← hM] at a; omega)
  clear k1 hz kW kk H3 B3 C3 K3
  go_upto_region 3 with (refine wpList_store_mid (by rfl) 41 (.tmp 4) (.tmp 10) (by rfl) w1.heap.size 0 (cl X).toArray (by rfl) (by rfl) TH.out SI.out ON.out ?_)
  rw [show (w1.alloc (.cells #[.int .i64 0, .int .u8 0, .int .u8 0, .int .u8 0, .int .u8 0, .int .u8 0, .int .u8 0, .int .u8 0, .int .u8 0, .int .u8 0, .int .u8 0, .int .u8 0, .int .u8 0, .int .u8 0, .int .u8 0, .int .u8 0, .int .u8 0, .int .u64 0] 41)).setCells w1.heap.size 0 (cl X) = W from hW.symm, ← hM]
  clear hW hM TH SI ON
  refine region_vals2 [none, none, none, none, none, none, none, none, none, none, none, some 0, some 1, some 2, some 3, some 4, some 5, some 6, some 7, none, none, none, none, none, none, none, none, none, none, none, none, none, none, none, none, none, none] [[(0, none)], [(11, some 0)], [(12, some 1)], [(13, some 2)], [(14, some 3)], [(3, none)], [(15, some 4), (16, some 5)], []] [some 11, some 12, some 13, some 14, some 15, some 16, some 17, some 18] [.pointer (some ⟨B, 0, none⟩), .pointer (some ⟨B, 0, none⟩), .pointer (some ⟨B, 0, none⟩), .slice (some ⟨C, 0, none⟩) n cap, .int .i64 (n : Int), markV m, plcV t m, .int .i64 0] (fun w' => Hid (Kp Nb W w')) (by kernel_rfl) (by kernel_rfl) (by kernel_rfl) ?hS (VFrom.all (n := 8) (by kernel_rfl) ?hstep) ?hend
  case hstep =>
    refine VFrom.cons (VStep.val _ rfl _ rfl (.pointer (some ⟨B, 0, none⟩)) rfl trivial (fun ev wq hS he hr => ?_)) ?_
    · have r0 : ev (.tmp 0) = .pointer (some ⟨B, 0, none⟩) := hr (0, none) (by simp); have hk := he.1; clear hr he
      go_simp
    refine VFrom.cons (VStep.val _ rfl _ rfl (.pointer (some ⟨B, 0, none⟩)) rfl trivial (fun ev wq hS he hr => ?_)) ?_
    · have r0 : ev (.tmp 11) = .pointer (some ⟨B, 0, none⟩) := hr (11, some 0) (by simp); have hk := he.1; clear hr he
      go_simp
    refine VFrom.cons (VStep.val _ rfl _ rfl (.pointer (some ⟨B, 0, none⟩)) rfl trivial (fun ev wq hS he hr => ?_)) ?_
    · have r0 : ev (.tmp 12) = .pointer (some ⟨B, 0, none⟩) := hr (12, some 1) (by simp); have hk := he.1; clear hr he
      go_simp
    refine VFrom.cons (VStep.val _ rfl _ rfl (.slice (some ⟨C, 0, none⟩) n cap) rfl trivial (fun ev wq hS he hr => ?_)) ?_
    · have r0 : ev (.tmp 13) = .pointer (some ⟨B, 0, none⟩) := hr (13, some 2) (by simp); have hk := he.1; clear hr he
      have c0 := (B5.out.kept hS.out (fun h => h)).cell 0
      go_simp
    refine VFrom.cons (VStep.val _ rfl _ rfl (.int .i64 (n : Int)) rfl trivial (fun ev wq hS he hr => ?_)) ?_
    · have r0 : ev (.tmp 14) = .slice (some ⟨C, 0, none⟩) n cap := hr (14, some 3) (by simp); have hk := he.1; clear hr he
      go_simp
    refine VFrom.cons (VStep.val _ rfl _ rfl (markV m) rfl trivial (fun ev wq hS he hr => ?_)) ?_
    · have r0 : ev (.tmp 3) = .pointer (some ⟨N, 0, none⟩) := hr (3, none) (by simp); have hk := he.1; clear hr he
      exact exec_load rfl r0 (load_mark HM.out (range_of (H5.out.kept hS.out (fun h => h))))
    refine VFrom.cons (VStep.call _ rfl _ rfl (plcV t m) rfl trivial 13 #[.int .i64 (n : Int), markV m] (fun ev wq hS he hr => ?_) (fun wq hS => ?_)) ?_
    · have r0 : ev (.tmp 15) = .int .i64 (n : Int) := hr (15, some 4) (by simp); have r1 : ev (.tmp 16) = markV m := hr (16, some 5) (by simp); have hk := he.1; have hf := he.2; clear hr he
      go_simp
    · exact (CPL.out wq).mono fun e w' ⟨h1, h2⟩ => ⟨h1, hS.out.trans h2 (fun _ _ h => h)⟩
    refine VFrom.cons (VStep.val _ rfl _ rfl (.int .i64 0) rfl trivial (fun ev wq hS he hr => ?_)) ?_
    · have hk := he.1; clear hr he
      go_simp
    exact VFrom.nil
  case hS => exact hid ((Kp.refl Nb W).drew)
  case hend =>
    intro w6 h6
    have H6 := hid (H5.out.kept h6.out (fun h => h))
    have X6 := hid (H4.out.kept h6.out (fun h => h))
    have B6 := hid (B5.out.kept h6.out (fun h => h))
    have C6 : Hid (Blk w6 C 41 (rws (updP addC t m cs 0) ++ rest)) := hid (C5.out.kept h6.out (fun h => h))
    have K6 := hid (K5.out.trans h6.out (fun _ _ h => h.elim))
    clear h6 H5 B5 C5 K5 H4 CO CPL H6
    simp only [putAll, List.zip_cons_cons, List.zip_nil_right, List.foldl_cons, List.foldl_nil, Act.put, List.setIfInBounds_toArray, List.set_cons_zero, List.set_cons_succ]
    go_wp2
    go_loopw [18] (UpdR w6 C rest (updP addC t m cs)) (fun i _ => 3 - (intOf i).toNat)
    case atStart => exact ⟨0, by omega, rfl, C6, Kp.refl _ _⟩
    case round =>
      clear C6
      obtain ⟨k, hk, rfl, HA, HK⟩ := hrel
      by_cases hlt : k < 3
      · have IX := hid (idx_plc t m k hlt)
        have hp := plc_lt t m k HT.out.1 hlt
        have PN : plc t m k < n := by rw [HN3.out]; exact hp
        have OK := hid (updP_ok (g := addC) (fun _ _ => addC_ok) t m HOK.out k)
        have LEN : Hid ((updP addC t m cs k).length = n) := hid (by rw [updP_length, HNN.out])
        have HQ : Hid (updP addC t m cs (k + 1) = (updP addC t m cs k).set (plc t m k) (addC (celAt (updP addC t m cs k) (plc t m k)) X)) := hid (by rw [HXE.out]; rfl)
        have XR := hid (flat_range (z := c0) HA.out OK.out.len (plc t m k) (by rw [LEN.out]; exact PN) (cl_length (OK.out.at _)))
        have UO := hid (OK.out.at (plc t m k))
        have XR' : Hid (wr.rangeAt C (plc t m k * 18) (cl (celAt (updP addC t m cs k) (plc t m k)))) := XR
        clear XR hp
        generalize celAt (updP addC t m cs k) (plc t m k) = u at HQ XR' UO
        generalize plc t m k = p at HQ XR' IX PN
        generalize updP addC t m cs k = ck at HA OK LEN HQ
        obtain ⟨Y, hY⟩ : ∃ Y, Y = addC u X := ⟨_, rfl⟩
        rw [← hY] at HQ
        have YO : Hid (CelOk Y) := hid (by rw [hY]; exact addC_ok)
        have CY : Hid (∀ w, Calls Try.prog 44 #[cv u, cv X] w fun e w' => e = .returned (cv Y) ∧ Kp Nb w w') := hid (fun w => by rw [hY]; exact cadd_c u X w UO.out XO.out)
        have X7 := hid (X6.out.kept HK.out (fun h => by have h' : M = C := h; have := LM.out; omega))
        have B7 := hid (B6.out.kept HK.out (fun h => HNE.out h))
        have PZ : Hid ((0 : Int) ≤ (p : Int)) := hid (by omega)
        have PL : Hid ((p : Int) < (n : Int)) := hid (by omega)
        have PT : Hid (((p : Nat) : Int).toNat = p) := hid (by omega)
        have HPN := hid PN
        have i1 := IX.out
        clear hY PN
        go_upto_region 6 with fail
        refine region_vals_last (n := 15) [none, none, none, none, none, none, none, none, none, none, none, none, none, none, none, none, none, none, none, none, none, some 0, some 1, some 2, some 3, some 4, some 5, some 6, some 7, some 8, some 9, some 10, some 11, some 12, some 13, some 14, none] [[(0, none)], [(21, some 0)], [(22, some 1)], [(23, some 2)], [(6, none)], [(0, none)], [(26, some 5)], [(27, some 6)], [(28, some 7)], [(6, none)], [(29, some 8), (30, some 9)], [(31, some 10)], [(4, none)], [(32, some 11), (33, some 12)], [(24, some 3), (25, some 4)], [(35, some 14), (34, some 13)]] [some 21, some 22, some 23, some 24, some 25, some 26, some 27, some 28, some 29, some 30, some 31, some 32, some 33, some 34, some 35] [.pointer (some ⟨B, 0, none⟩), .pointer (some ⟨B, 0, none⟩), .pointer (some ⟨B, 0, none⟩), .slice (some ⟨C, 0, none⟩) n cap, .int .i64 (p : Int), .pointer (some ⟨B, 0, none⟩), .pointer (some ⟨B, 0, none⟩), .pointer (some ⟨B, 0, none⟩), .slice (some ⟨C, 0, none⟩) n cap, .int .i64 (p : Int), .pointer (some ⟨C, p * 18, none⟩), cv u, cv X, cv Y, .pointer (some ⟨C, p * 18, none⟩)] (fun w' => Hid (Kp Nb wr w')) (by kernel_rfl) (by kernel_rfl) (by kernel_rfl) (by kernel_rfl) ({ dst := none, op := Op.store 41 (Operand.tmp 35) (Operand.tmp 34), type := 0, pos := "iblt.go:74", after := #[{ on := 14, ground := Ground.data }, { on := 13, ground := Ground.data }, { on := 13, ground := Ground.chain }, { on := 0, ground := Ground.phase }, { on := 1, ground := Ground.phase }, { on := 2, ground := Ground.phase }, { on := 3, ground := Ground.phase }, { on := 4, ground := Ground.phase }, { on := 5, ground := Ground.phase }, { on := 6, ground := Ground.phase }, { on := 7, ground := Ground.phase }, { on := 8, ground := Ground.phase }, { on := 9, ground := Ground.phase }, { on := 10, ground := Ground.phase }, { on := 11, ground := Ground.phase }, { on := 12, ground := Ground.phase }, { on := 13, ground := Ground.phase }], guard := none }) rfl rfl (by kernel_rfl) (by kernel_rfl) ?hS (?hstep : VFrom _ _ _ _ _ _ 0 15).start ?hend
        case hstep =>
          refine VFrom.cons (VStep.val _ rfl _ rfl (.pointer (some ⟨B, 0, none⟩)) rfl trivial (fun ev wq hS he hr => ?_)) ?_
          · have r0 : ev (.tmp 0) = .pointer (some ⟨B, 0, none⟩) := hr (0, none) (by simp); have hk := he.1; clear hr he
            go_simp
          refine VFrom.cons (VStep.val _ rfl _ rfl (.pointer (some ⟨B, 0, none⟩)) rfl trivial (fun ev wq hS he hr => ?_)) ?_
          · have r0 : ev (.tmp 21) = .pointer (some ⟨B, 0, none⟩) := hr (21, some 0) (by simp); have hk := he.1; clear hr he
            go_simp
          refine VFrom.cons (VStep.val _ rfl _ rfl (.pointer (some ⟨B, 0, none⟩)) rfl trivial (fun ev wq hS he hr => ?_)) ?_
          · have r0 : ev (.tmp 22) = .pointer (some ⟨B, 0, none⟩) := hr (22, some 1) (by simp); have hk := he.1; clear hr he
            go_simp
          refine VFrom.cons (VStep.val _ rfl _ rfl (.slice (some ⟨C, 0, none⟩) n cap) rfl trivial (fun ev wq hS he hr => ?_)) ?_
          · have r0 : ev (.tmp 23) = .pointer (some ⟨B, 0, none⟩) := hr (23, some 2) (by simp); have hk := he.1; clear hr he
            have c0 := (B7.out.kept hS.out (fun h => h)).cell 0
            go_simp
          refine VFrom.cons (VStep.val _ rfl _ rfl (.int .i64 (p : Int)) rfl trivial (fun ev wq hS he hr => ?_)) ?_
          · have r0 : ev (.tmp 6) = .int .i64 (p : Int) := hr (6, none) (by simp); have hk := he.1; clear hr he
            go_simp
          refine VFrom.cons (VStep.val _ rfl _ rfl (.pointer (some ⟨B, 0, none⟩)) rfl trivial (fun ev wq hS he hr => ?_)) ?_
          · have r0 : ev (.tmp 0) = .pointer (some ⟨B, 0, none⟩) := hr (0, none) (by simp); have hk := he.1; clear hr he
            go_simp
          refine VFrom.cons (VStep.val _ rfl _ rfl (.pointer (some ⟨B, 0, none⟩)) rfl trivial (fun ev wq hS he hr => ?_)) ?_
          · have r0 : ev (.tmp 26) = .pointer (some ⟨B, 0, none⟩) := hr (26, some 5) (by simp); have hk := he.1; clear hr he
            go_simp
          refine VFrom.cons (VStep.val _ rfl _ rfl (.pointer (some ⟨B, 0, none⟩)) rfl trivial (fun ev wq hS he hr => ?_)) ?_
          · have r0 : ev (.tmp 27) = .pointer (some ⟨B, 0, none⟩) := hr (27, some 6) (by simp); have hk := he.1; clear hr he
            go_simp
          refine VFrom.cons (VStep.val _ rfl _ rfl (.slice (some ⟨C, 0, none⟩) n cap) rfl trivial (fun ev wq hS he hr => ?_)) ?_
          · have r0 : ev (.tmp 28) = .pointer (some ⟨B, 0, none⟩) := hr (28, some 7) (by simp); have hk := he.1; clear hr he
            have c0 := (B7.out.kept hS.out (fun h => h)).cell 0
            go_simp
          refine VFrom.cons (VStep.val _ rfl _ rfl (.int .i64 (p : Int)) rfl trivial (fun ev wq hS he hr => ?_)) ?_
          · have r0 : ev (.tmp 6) = .int .i64 (p : Int) := hr (6, none) (by simp); have hk := he.1; clear hr he
            go_simp
          refine VFrom.cons (VStep.val _ rfl _ rfl (.pointer (some ⟨C, p * 18, none⟩)) rfl trivial (fun ev wq hS he hr => ?_)) ?_
          · have r0 : ev (.tmp 29) = .slice (some ⟨C, 0, none⟩) n cap := hr (29, some 8) (by simp); have r1 : ev (.tmp 30) = .int .i64 (p : Int) := hr (30, some 9) (by simp); have hk := he.1; clear hr he
            have e1 := PZ.out; have e2 := PL.out; have e3 := PT.out
            go_simp
          refine VFrom.cons (VStep.val _ rfl _ rfl (cv u) rfl trivial (fun ev wq hS he hr => ?_)) ?_
          · have r0 : ev (.tmp 31) = .pointer (some ⟨C, p * 18, none⟩) := hr (31, some 10) (by simp); have hk := he.1; clear hr he
            exact exec_load rfl r0 (load_cell UO.out (range_kept XR'.out hS.out))
          refine VFrom.cons (VStep.val _ rfl _ rfl (cv X) rfl trivial (fun ev wq hS he hr => ?_)) ?_
          · have r0 : ev (.tmp 4) = .pointer (some ⟨M, 0, none⟩) := hr (4, none) (by simp); have hk := he.1; clear hr he
            exact exec_load rfl r0 (load_cell XO.out (range_of (X7.out.kept hS.out (fun h => h))))
          refine VFrom.cons (VStep.call _ rfl _ rfl (cv Y) rfl trivial 44 #[cv u, cv X] (fun ev wq hS he hr => ?_) (fun wq hS => ?_)) ?_
          · have r0 : ev (.tmp 32) = cv u := hr (32, some 11) (by simp); have r1 : ev (.tmp 33) = cv X := hr (33, some 12) (by simp); have hk := he.1; have hf := he.2; clear hr he
            go_simp
          · exact (CY.out wq).mono fun e w' ⟨h1, h2⟩ => ⟨h1, hS.out.trans h2 (fun _ _ h => h)⟩
          refine VFrom.cons (VStep.val _ rfl _ rfl (.pointer (some ⟨C, p * 18, none⟩)) rfl trivial (fun ev wq hS he hr => ?_)) ?_
          · have r0 : ev (.tmp 24) = .slice (some ⟨C, 0, none⟩) n cap := hr (24, some 3) (by simp); have r1 : ev (.tmp 25) = .int .i64 (p : Int) := hr (25, some 4) (by simp); have hk := he.1; clear hr he
            have e1 := PZ.out; have e2 := PL.out; have e3 := PT.out
            go_simp
          exact VFrom.nil
        case hS => exact hid ((Kp.refl Nb wr).drew)
        case hend =>
          intro af wy haf kh
          have HE := HA.out.kept kh.out (fun h => h)
          have HA3 : Hid (Blk (wy.setCells C (p * 18) (cl Y)) C 41 (rws (updP addC t m cs (k + 1)) ++ rest)) := hid (by rw [HQ.out]; exact flat_put HE OK.out.len p Y (by rw [LEN.out]; exact HPN.out) (cl_length YO.out))
          have HK3 : Hid (Kp (Jb C) w6 (wy.setCells C (p * 18) (cl Y))) := hid (Kp.setCells (S := Jb C) (fun _ => show C = C from rfl) _ _ _ (HK.out.trans kh.out (fun _ _ h => h.elim)))
          refine cv_put (x := Y) (o := p * 18) (ad := .tmp 35) (v := .tmp 34) YO.out (flat_there HE OK.out.len p (by rw [LEN.out]; exact HPN.out)) rfl (by rw [haf.out]; kernel_rfl) (by rw [haf.out]; kernel_rfl) ?_
          rw [haf.out]
          clear haf kh HE
          simp only [putAll, List.zip_cons_cons, List.zip_nil_right, List.foldl_cons, List.foldl_nil, Act.put, List.setIfInBounds_toArray, List.set_cons_zero, List.set_cons_succ]
          go_wp2
          go_roundw
          case rel => exact ⟨k + 1, by omega, by go_num, HA3, HK3⟩
          case measure => simp [intOf]; omega
      · obtain rfl : k = 3 := by omega
        have B7 := B6.out.kept HK.out (fun h => HNE.out h)
        have K7 := hid (K6.out.trans HK.out (fun _ _ h => h))
        have ok3 := updP_ok (g := addC) (fun _ _ => addC_ok) t m HOK.out 3
        have len3 : (updP addC t m cs 3).length = n := by rw [updP_length, HNN.out]
        have S7 : Hid (SkAt wr B C (updP addC t m cs 3)) := hid ⟨ok3, ⟨cap, rest, by rw [len3]; exact B7, HA.out, by rw [len3]; exact HCAP.out.1, HCAP.out.2⟩, by rw [len3, HN3.out]; have := HT.out.1; omega, HNE.out⟩
        clear B7 ok3 len3 HA HK
        go_wp2
        go_end0
        exact ⟨rfl, S7.out, K7.out⟩


set_option maxRecDepth 100000 in
set_option maxHeartbeats 4000000 in
theorem krem_any (B C t : Nat) (cs : List Cel) (m : List Int) (w : World) (h : SkAt w B C cs) (hm : MarkOk m) (hn : cs.length = 3 * t) (h1 : t ≤ 512) :
    Calls Try.prog 19 #[.pointer (some ⟨B, 0, none⟩), markV m] w fun e w' => e = .returned (.tuple #[]) ∧ SkAt w' B C (updP subC t m cs 3) ∧ Kp (Jb C) w w' := by
  have hpos : 0 < t := by have := h.pos; omega
  obtain ⟨cap, rest, hb, hc, hn1, hn2⟩ := h.at'
  have HNE := hid h.ne
  have HOK := hid h.ok
  have HM := hid hm
  obtain ⟨n, hnn⟩ : ∃ n, n = cs.length := ⟨_, rfl⟩
  have HNN := hid hnn
  rw [← hnn] at hb hn1 hn
  have HCAP := hid (show n ≤ cap ∧ cap ≤ maxLen from ⟨hn1, hn2⟩)
  have HN3 := hid hn
  have HT : Hid (0 < t ∧ t ≤ 512) := hid ⟨hpos, h1⟩
  have HB := hid hb
  have HC := hid hc
  have LB := hid hb.lt
  have LC := hid hc.lt
  have hcm : cap ≤ 9223372036854775807 := by unfold maxLen at hn2; omega
  have hncap : n ≤ cap := hn1
  obtain ⟨X, hX⟩ : ∃ X, X = ofC m := ⟨_, rfl⟩
  have XO : Hid (CelOk X) := hid (by rw [hX]; exact ofC_ok hm)
  have CO : Hid (∀ w, Calls Try.prog 43 #[markV m] w fun e w' => e = .returned (cv X) ∧ Kp Nb w w') := hid (fun w => by rw [hX]; exact cof_c m w HM.out)
  have CPL : Hid (∀ w, Calls Try.prog 13 #[.int .i64 (n : Int), markV m] w fun e w' => e = .returned (plcV t m) ∧ Kp Nb w w') := hid (fun w => by
    have h := places_any t m w HM.out hpos h1
    rw [← hn] at h
    exact h)
  have H3 := hid (Blk.new w 23 (markL m))
  have B3 := hid (hb.alloc (.cells (markL m).toArray 23))
  have C3 := hid (hc.alloc (.cells (markL m).toArray 23))
  have K3 := hid ((Kp.refl (Jb C) w).alloc (.cells (markL m).toArray 23))
  have HXE := hid hX
  clear h hm hb hc hn1 hn2 hnn hn hX h1 hpos
  go_enter Try.func19, Try.ntmps19
  go_wp2_with (refine wpList_load_mid (by rfl) 23 (.tmp 3) (by rfl) w.heap.size 0 (by rfl) (markL m) _ (range_of H3.out) under_mark rfl (mark_infoL m HM.out.len) ?_)
  obtain ⟨N, hN⟩ : ∃ N, w.heap.size = N := ⟨_, rfl⟩
  rw [hN] at H3 LB LC ⊢
  have HNW := hid hN
  clear hN
  refine (CO.out _).mono ?_
  rintro e w1 ⟨rfl, k1⟩
  have hz := Blk.new w1 41 (cl c0)
  obtain ⟨M, hM⟩ : ∃ M, M = w1.heap.size := ⟨_, rfl⟩
  obtain ⟨W, hW⟩ : ∃ W, W = (w1.alloc (.cells (cl c0).toArray 41)).setCells w1.heap.size 0 (cl X) := ⟨_, rfl⟩
  have kW : Kp Nb w1 W := by rw [hW]; exact Kp.setCells (fun h => absurd h (Nat.lt_irrefl _)) _ 0 _ ((Kp.refl Nb w1).alloc _)
  have TH := hid (cell_there hz (cl_length c0_ok) XO.out)
  have SI := hid (cell_sized XO.out)
  have ON := hid (all_oneCell_toArray (cellL_one X.1 X.2.1 X.2.2))
  have H4 : Hid (Blk W M 41 (cl X)) := hid (by rw [hW, hM]; exact row_set hz (by rw [cl_length c0_ok, cl_length XO.out]))
  have kk := k1.trans kW (fun _ _ h => h)
  have H5 := hid (H3.out.kept kk (fun h => h))
  have B5 := hid (B3.out.kept kk (fun h => h))
  have C5 := hid (C3.out.kept kk (fun h => h))
  have K5 := hid (K3.out.trans kk (fun _ _ h => h.elim))
  have LM : Hid (N < M ∧ B < M ∧ C < M) := hid (by have a := (H3.out.kept k1 (fun h => h)).lt; have b := LB.out; have c := LC.out; rw [← hM] at a; omega)
  clear k1 hz kW kk H3 B3 C3 K3
  go_upto_region 3 with (refine wpList_store_mid (by rfl) 41 (.tmp 4) (.tmp 10) (by rfl) w1.heap.size 0 (cl X).toArray (by rfl) (by rfl) TH.out SI.out ON.out ?_)
  rw [show (w1.alloc (.cells #[.int .i64 0, .int .u8 0, .int .u8 0, .int .u8 0, .int .u8 0, .int .u8 0, .int .u8 0, .int .u8 0, .int .u8 0, .int .u8 0, .int .u8 0, .int .u8 0, .int .u8 0, .int .u8 0, .int .u8 0, .int .u8 0, .int .u8 0, .int .u64 0] 41)).setCells w1.heap.size 0 (cl X) = W from hW.symm, ← hM]
  clear hW hM TH SI ON
  refine region_vals2 [none, none, none, none, none, none, none, none, none, none, none, some 0, some 1, some 2, some 3, some 4, some 5, some 6, some 7, none, none, none, none, none, none, none, none, none, none, none, none, none, none, none, none, none, none] [[(0, none)], [(11, some 0)], [(12, some 1)], [(13, some 2)], [(14, some 3)], [(3, none)], [(15, some 4), (16, some 5)], []] [some 11, some 12, some 13, some 14, some 15, some 16, some 17, some 18] [.pointer (some ⟨B, 0, none⟩), .pointer (some ⟨B, 0, none⟩), .pointer (some ⟨B, 0, none⟩), .slice (some ⟨C, 0, none⟩) n cap, .int .i64 (n : Int), markV m, plcV t m, .int .i64 0] (fun w' => Hid (Kp Nb W w')) (by kernel_rfl) (by kernel_rfl) (by kernel_rfl) ?hS (VFrom.all (n := 8) (by kernel_rfl) ?hstep) ?hend
  case hstep =>
    refine VFrom.cons (VStep.val _ rfl _ rfl (.pointer (some ⟨B, 0, none⟩)) rfl trivial (fun ev wq hS he hr => ?_)) ?_
    · have r0 : ev (.tmp 0) = .pointer (some ⟨B, 0, none⟩) := hr (0, none) (by simp); have hk := he.1; clear hr he
      go_simp
    refine VFrom.cons (VStep.val _ rfl _ rfl (.pointer (some ⟨B, 0, none⟩)) rfl trivial (fun ev wq hS he hr => ?_)) ?_
    · have r0 : ev (.tmp 11) = .pointer (some ⟨B, 0, none⟩) := hr (11, some 0) (by simp); have hk := he.1; clear hr he
      go_simp
    refine VFrom.cons (VStep.val _ rfl _ rfl (.pointer (some ⟨B, 0, none⟩)) rfl trivial (fun ev wq hS he hr => ?_)) ?_
    · have r0 : ev (.tmp 12) = .pointer (some ⟨B, 0, none⟩) := hr (12, some 1) (by simp); have hk := he.1; clear hr he
      go_simp
    refine VFrom.cons (VStep.val _ rfl _ rfl (.slice (some ⟨C, 0, none⟩) n cap) rfl trivial (fun ev wq hS he hr => ?_)) ?_
    · have r0 : ev (.tmp 13) = .pointer (some ⟨B, 0, none⟩) := hr (13, some 2) (by simp); have hk := he.1; clear hr he
      have c0 := (B5.out.kept hS.out (fun h => h)).cell 0
      go_simp
    refine VFrom.cons (VStep.val _ rfl _ rfl (.int .i64 (n : Int)) rfl trivial (fun ev wq hS he hr => ?_)) ?_
    · have r0 : ev (.tmp 14) = .slice (some ⟨C, 0, none⟩) n cap := hr (14, some 3) (by simp); have hk := he.1; clear hr he
      go_simp
    refine VFrom.cons (VStep.val _ rfl _ rfl (markV m) rfl trivial (fun ev wq hS he hr => ?_)) ?_
    · have r0 : ev (.tmp 3) = .pointer (some ⟨N, 0, none⟩) := hr (3, none) (by simp); have hk := he.1; clear hr he
      exact exec_load rfl r0 (load_mark HM.out (range_of (H5.out.kept hS.out (fun h => h))))
    refine VFrom.cons (VStep.call _ rfl _ rfl (plcV t m) rfl trivial 13 #[.int .i64 (n : Int), markV m] (fun ev wq hS he hr => ?_) (fun wq hS => ?_)) ?_
    · have r0 : ev (.tmp 15) = .int .i64 (n : Int) := hr (15, some 4) (by simp); have r1 : ev (.tmp 16) = markV m := hr (16, some 5) (by simp); have hk := he.1; have hf := he.2; clear hr he
      go_simp
    · exact (CPL.out wq).mono fun e w' ⟨h1, h2⟩ => ⟨h1, hS.out.trans h2 (fun _ _ h => h)⟩
    refine VFrom.cons (VStep.val _ rfl _ rfl (.int .i64 0) rfl trivial (fun ev wq hS he hr => ?_)) ?_
    · have hk := he.1; clear hr he
      go_simp
    exact VFrom.nil
  case hS => exact hid ((Kp.refl Nb W).drew)
  case hend =>
    intro w6 h6
    have H6 := hid (H5.out.kept h6.out (fun h => h))
    have X6 := hid (H4.out.kept h6.out (fun h => h))
    have B6 := hid (B5.out.kept h6.out (fun h => h))
    have C6 : Hid (Blk w6 C 41 (rws (updP subC t m cs 0) ++ rest)) := hid (C5.out.kept h6.out (fun h => h))
    have K6 := hid (K5.out.trans h6.out (fun _ _ h => h.elim))
    clear h6 H5 B5 C5 K5 H4 CO CPL H6
    simp only [putAll, List.zip_cons_cons, List.zip_nil_right, List.foldl_cons, List.foldl_nil, Act.put, List.setIfInBounds_toArray, List.set_cons_zero, List.set_cons_succ]
    go_wp2
    go_loopw [18] (UpdR w6 C rest (updP subC t m cs)) (fun i _ => 3 - (intOf i).toNat)
    case atStart => exact ⟨0, by omega, rfl, C6, Kp.refl _ _⟩
    case round =>
      clear C6
      obtain ⟨k, hk, rfl, HA, HK⟩ := hrel
      by_cases hlt : k < 3
      · have IX := hid (idx_plc t m k hlt)
        have hp := plc_lt t m k HT.out.1 hlt
        have PN : plc t m k < n := by rw [HN3.out]; exact hp
        have OK := hid (updP_ok (g := subC) (fun _ _ => subC_ok) t m HOK.out k)
        have LEN : Hid ((updP subC t m cs k).length = n) := hid (by rw [updP_length, HNN.out])
        have HQ : Hid (updP subC t m cs (k + 1) = (updP subC t m cs k).set (plc t m k) (subC (celAt (updP subC t m cs k) (plc t m k)) X)) := hid (by rw [HXE.out]; rfl)
        have XR := hid (flat_range (z := c0) HA.out OK.out.len (plc t m k) (by rw [LEN.out]; exact PN) (cl_length (OK.out.at _)))
        have UO := hid (OK.out.at (plc t m k))
        have XR' : Hid (wr.rangeAt C (plc t m k * 18) (cl (celAt (updP subC t m cs k) (plc t m k)))) := XR
        clear XR hp
        generalize celAt (updP subC t m cs k) (plc t m k) = u at HQ XR' UO
        generalize plc t m k = p at HQ XR' IX PN
        generalize updP subC t m cs k = ck at HA OK LEN HQ
        obtain ⟨Y, hY⟩ : ∃ Y, Y = subC u X := ⟨_, rfl⟩
        rw [← hY] at HQ
        have YO : Hid (CelOk Y) := hid (by rw [hY]; exact subC_ok)
        have CY : Hid (∀ w, Calls Try.prog 45 #[cv u, cv X] w fun e w' => e = .returned (cv Y) ∧ Kp Nb w w') := hid (fun w => by rw [hY]; exact csub_c u X w UO.out XO.out)
        have X7 := hid (X6.out.kept HK.out (fun h => by have h' : M = C := h; have := LM.out; omega))
        have B7 := hid (B6.out.kept HK.out (fun h => HNE.out h))
        have PZ : Hid ((0 : Int) ≤ (p : Int)) := hid (by omega)
        have PL : Hid ((p : Int) < (n : Int)) := hid (by omega)
        have PT : Hid (((p : Nat) : Int).toNat = p) := hid (by omega)
        have HPN := hid PN
        have i1 := IX.out
        clear hY PN
        go_upto_region 6 with fail
        refine region_vals_last (n := 15) [none, none, none, none, none, none, none, none, none, none, none, none, none, none, none, none, none, none, none, none, none, some 0, some 1, some 2, some 3, some 4, some 5, some 6, some 7, some 8, some 9, some 10, some 11, some 12, some 13, some 14, none] [[(0, none)], [(21, some 0)], [(22, some 1)], [(23, some 2)], [(6, none)], [(0, none)], [(26, some 5)], [(27, some 6)], [(28, some 7)], [(6, none)], [(29, some 8), (30, some 9)], [(31, some 10)], [(4, none)], [(32, some 11), (33, some 12)], [(24, some 3), (25, some 4)], [(35, some 14), (34, some 13)]] [some 21, some 22, some 23, some 24, some 25, some 26, some 27, some 28, some 29, some 30, some 31, some 32, some 33, some 34, some 35] [.pointer (some ⟨B, 0, none⟩), .pointer (some ⟨B, 0, none⟩), .pointer (some ⟨B, 0, none⟩), .slice (some ⟨C, 0, none⟩) n cap, .int .i64 (p : Int), .pointer (some ⟨B, 0, none⟩), .pointer (some ⟨B, 0, none⟩), .pointer (some ⟨B, 0, none⟩), .slice (some ⟨C, 0, none⟩) n cap, .int .i64 (p : Int), .pointer (some ⟨C, p * 18, none⟩), cv u, cv X, cv Y, .pointer (some ⟨C, p * 18, none⟩)] (fun w' => Hid (Kp Nb wr w')) (by kernel_rfl) (by kernel_rfl) (by kernel_rfl) (by kernel_rfl) ({ dst := none, op := Op.store 41 (Operand.tmp 35) (Operand.tmp 34), type := 0, pos := "iblt.go:85", after := #[{ on := 14, ground := Ground.data }, { on := 13, ground := Ground.data }, { on := 13, ground := Ground.chain }, { on := 0, ground := Ground.phase }, { on := 1, ground := Ground.phase }, { on := 2, ground := Ground.phase }, { on := 3, ground := Ground.phase }, { on := 4, ground := Ground.phase }, { on := 5, ground := Ground.phase }, { on := 6, ground := Ground.phase }, { on := 7, ground := Ground.phase }, { on := 8, ground := Ground.phase }, { on := 9, ground := Ground.phase }, { on := 10, ground := Ground.phase }, { on := 11, ground := Ground.phase }, { on := 12, ground := Ground.phase }, { on := 13, ground := Ground.phase }], guard := none }) rfl rfl (by kernel_rfl) (by kernel_rfl) ?hS (?hstep : VFrom _ _ _ _ _ _ 0 15).start ?hend
        case hstep =>
          refine VFrom.cons (VStep.val _ rfl _ rfl (.pointer (some ⟨B, 0, none⟩)) rfl trivial (fun ev wq hS he hr => ?_)) ?_
          · have r0 : ev (.tmp 0) = .pointer (some ⟨B, 0, none⟩) := hr (0, none) (by simp); have hk := he.1; clear hr he
            go_simp
          refine VFrom.cons (VStep.val _ rfl _ rfl (.pointer (some ⟨B, 0, none⟩)) rfl trivial (fun ev wq hS he hr => ?_)) ?_
          · have r0 : ev (.tmp 21) = .pointer (some ⟨B, 0, none⟩) := hr (21, some 0) (by simp); have hk := he.1; clear hr he
            go_simp
          refine VFrom.cons (VStep.val _ rfl _ rfl (.pointer (some ⟨B, 0, none⟩)) rfl trivial (fun ev wq hS he hr => ?_)) ?_
          · have r0 : ev (.tmp 22) = .pointer (some ⟨B, 0, none⟩) := hr (22, some 1) (by simp); have hk := he.1; clear hr he
            go_simp
          refine VFrom.cons (VStep.val _ rfl _ rfl (.slice (some ⟨C, 0, none⟩) n cap) rfl trivial (fun ev wq hS he hr => ?_)) ?_
          · have r0 : ev (.tmp 23) = .pointer (some ⟨B, 0, none⟩) := hr (23, some 2) (by simp); have hk := he.1; clear hr he
            have c0 := (B7.out.kept hS.out (fun h => h)).cell 0
            go_simp
          refine VFrom.cons (VStep.val _ rfl _ rfl (.int .i64 (p : Int)) rfl trivial (fun ev wq hS he hr => ?_)) ?_
          · have r0 : ev (.tmp 6) = .int .i64 (p : Int) := hr (6, none) (by simp); have hk := he.1; clear hr he
            go_simp
          refine VFrom.cons (VStep.val _ rfl _ rfl (.pointer (some ⟨B, 0, none⟩)) rfl trivial (fun ev wq hS he hr => ?_)) ?_
          · have r0 : ev (.tmp 0) = .pointer (some ⟨B, 0, none⟩) := hr (0, none) (by simp); have hk := he.1; clear hr he
            go_simp
          refine VFrom.cons (VStep.val _ rfl _ rfl (.pointer (some ⟨B, 0, none⟩)) rfl trivial (fun ev wq hS he hr => ?_)) ?_
          · have r0 : ev (.tmp 26) = .pointer (some ⟨B, 0, none⟩) := hr (26, some 5) (by simp); have hk := he.1; clear hr he
            go_simp
          refine VFrom.cons (VStep.val _ rfl _ rfl (.pointer (some ⟨B, 0, none⟩)) rfl trivial (fun ev wq hS he hr => ?_)) ?_
          · have r0 : ev (.tmp 27) = .pointer (some ⟨B, 0, none⟩) := hr (27, some 6) (by simp); have hk := he.1; clear hr he
            go_simp
          refine VFrom.cons (VStep.val _ rfl _ rfl (.slice (some ⟨C, 0, none⟩) n cap) rfl trivial (fun ev wq hS he hr => ?_)) ?_
          · have r0 : ev (.tmp 28) = .pointer (some ⟨B, 0, none⟩) := hr (28, some 7) (by simp); have hk := he.1; clear hr he
            have c0 := (B7.out.kept hS.out (fun h => h)).cell 0
            go_simp
          refine VFrom.cons (VStep.val _ rfl _ rfl (.int .i64 (p : Int)) rfl trivial (fun ev wq hS he hr => ?_)) ?_
          · have r0 : ev (.tmp 6) = .int .i64 (p : Int) := hr (6, none) (by simp); have hk := he.1; clear hr he
            go_simp
          refine VFrom.cons (VStep.val _ rfl _ rfl (.pointer (some ⟨C, p * 18, none⟩)) rfl trivial (fun ev wq hS he hr => ?_)) ?_
          · have r0 : ev (.tmp 29) = .slice (some ⟨C, 0, none⟩) n cap := hr (29, some 8) (by simp); have r1 : ev (.tmp 30) = .int .i64 (p : Int) := hr (30, some 9) (by simp); have hk := he.1; clear hr he
            have e1 := PZ.out; have e2 := PL.out; have e3 := PT.out
            go_simp
          refine VFrom.cons (VStep.val _ rfl _ rfl (cv u) rfl trivial (fun ev wq hS he hr => ?_)) ?_
          · have r0 : ev (.tmp 31) = .pointer (some ⟨C, p * 18, none⟩) := hr (31, some 10) (by simp); have hk := he.1; clear hr he
            exact exec_load rfl r0 (load_cell UO.out (range_kept XR'.out hS.out))
          refine VFrom.cons (VStep.val _ rfl _ rfl (cv X) rfl trivial (fun ev wq hS he hr => ?_)) ?_
          · have r0 : ev (.tmp 4) = .pointer (some ⟨M, 0, none⟩) := hr (4, none) (by simp); have hk := he.1; clear hr he
            exact exec_load rfl r0 (load_cell XO.out (range_of (X7.out.kept hS.out (fun h => h))))
          refine VFrom.cons (VStep.call _ rfl _ rfl (cv Y) rfl trivial 45 #[cv u, cv X] (fun ev wq hS he hr => ?_) (fun wq hS => ?_)) ?_
          · have r0 : ev (.tmp 32) = cv u := hr (32, some 11) (by simp); have r1 : ev (.tmp 33) = cv X := hr (33, some 12) (by simp); have hk := he.1; have hf := he.2; clear hr he
            go_simp
          · exact (CY.out wq).mono fun e w' ⟨h1, h2⟩ => ⟨h1, hS.out.trans h2 (fun _ _ h => h)⟩
          refine VFrom.cons (VStep.val _ rfl _ rfl (.pointer (some ⟨C, p * 18, none⟩)) rfl trivial (fun ev wq hS he hr => ?_)) ?_
          · have r0 : ev (.tmp 24) = .slice (some ⟨C, 0, none⟩) n cap := hr (24, some 3) (by simp); have r1 : ev (.tmp 25) = .int .i64 (p : Int) := hr (25, some 4) (by simp); have hk := he.1; clear hr he
            have e1 := PZ.out; have e2 := PL.out; have e3 := PT.out
            go_simp
          exact VFrom.nil
        case hS => exact hid ((Kp.refl Nb wr).drew)
        case hend =>
          intro af wy haf kh
          have HE := HA.out.kept kh.out (fun h => h)
          have HA3 : Hid (Blk (wy.setCells C (p * 18) (cl Y)) C 41 (rws (updP subC t m cs (k + 1)) ++ rest)) := hid (by rw [HQ.out]; exact flat_put HE OK.out.len p Y (by rw [LEN.out]; exact HPN.out) (cl_length YO.out))
          have HK3 : Hid (Kp (Jb C) w6 (wy.setCells C (p * 18) (cl Y))) := hid (Kp.setCells (S := Jb C) (fun _ => show C = C from rfl) _ _ _ (HK.out.trans kh.out (fun _ _ h => h.elim)))
          refine cv_put (x := Y) (o := p * 18) (ad := .tmp 35) (v := .tmp 34) YO.out (flat_there HE OK.out.len p (by rw [LEN.out]; exact HPN.out)) rfl (by rw [haf.out]; kernel_rfl) (by rw [haf.out]; kernel_rfl) ?_
          rw [haf.out]
          clear haf kh HE
          simp only [putAll, List.zip_cons_cons, List.zip_nil_right, List.foldl_cons, List.foldl_nil, Act.put, List.setIfInBounds_toArray, List.set_cons_zero, List.set_cons_succ]
          go_wp2
          go_roundw
          case rel => exact ⟨k + 1, by omega, by go_num, HA3, HK3⟩
          case measure => simp [intOf]; omega
      · obtain rfl : k = 3 := by omega
        have B7 := B6.out.kept HK.out (fun h => HNE.out h)
        have K7 := hid (K6.out.trans HK.out (fun _ _ h => h))
        have ok3 := updP_ok (g := subC) (fun _ _ => subC_ok) t m HOK.out 3
        have len3 : (updP subC t m cs 3).length = n := by rw [updP_length, HNN.out]
        have S7 : Hid (SkAt wr B C (updP subC t m cs 3)) := hid ⟨ok3, ⟨cap, rest, by rw [len3]; exact B7, HA.out, by rw [len3]; exact HCAP.out.1, HCAP.out.2⟩, by rw [len3, HN3.out]; have := HT.out.1; omega, HNE.out⟩
        clear B7 ok3 len3 HA HK
        go_wp2
        go_end0
        exact ⟨rfl, S7.out, K7.out⟩


end Go.Proofs.Yteedceepoindeaa
