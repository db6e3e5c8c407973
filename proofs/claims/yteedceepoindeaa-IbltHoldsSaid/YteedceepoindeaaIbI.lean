/-
  Layer 11: one sketch less another (Sub). Conditions: no more than 100000 cells.
-/
import Derived.Test.YteedceepoindeaaIbH
import Derived.Test.YteedceepoindeaaIbE
namespace Go.Proofs.Yteedceepoindeaa
open Go.RowKit Go.Shelf
attribute [local go_sem] Oper.semAt_some

/-- The first k cells less b's, the others as they were. -/
def subP (a b : List Cel) : Nat → List Cel
  | 0 => a
  | k + 1 => (subP a b k).set k (subC (celAt (subP a b k) k) (celAt b k))
theorem subP_length (a b : List Cel) : ∀ k, (subP a b k).length = a.length
  | 0 => rfl
  | k + 1 => by show ((subP a b k).set k _).length = _; rw [List.length_set, subP_length a b k]
theorem subP_ok {a b : List Cel} (ha : AllOk a) : ∀ k, AllOk (subP a b k)
  | 0 => ha
  | k + 1 => (subP_ok ha k).set k subC_ok
def subS (a b : List Cel) : List Cel := subP a b a.length
def SubR (w4 : World) (C n : Nat) (rest : List Value) (cs : Nat → List Cel) (i : Value) (wr : World) : Prop := ∃ k : Nat, k ≤ n ∧ i = .int .i64 k ∧ Hid (Blk wr C 41 (rws (cs k) ++ rest)) ∧ Hid (Kp (Jb C) w4 wr)

set_option maxRecDepth 100000 in
set_option maxHeartbeats 1000000 in
theorem ksub_nil1 (v : Value) (hv : v = .pointer none ∨ ∃ p, v = .pointer (some p)) (w : World) : Calls Try.prog 21 #[.pointer none, v] w fun e w' => e = .returned (.tuple #[.pointer none, .int .i64 1]) ∧ w = w' := by
  rcases hv with rfl | ⟨p, rfl⟩ <;>
  · go_enter Try.func21, Try.ntmps21
    go_wp2
    go_ret2
    exact ⟨rfl, rfl⟩

set_option maxRecDepth 100000 in
set_option maxHeartbeats 4000000 in
theorem ksub_any (B1 C1 B2 C2 : Nat) (a b : List Cel) (w : World) (h1 : SkAt w B1 C1 a) (h2 : SkAt w B2 C2 b) (hl : a.length = b.length) (hbig : a.length ≤ 100000) :
    Calls Try.prog 21 #[.pointer (some ⟨B1, 0, none⟩), .pointer (some ⟨B2, 0, none⟩)] w fun e w' => ∃ B C, e = .returned (.tuple #[.pointer (some ⟨B, 0, none⟩), .int .i64 0]) ∧ SkAt w' B C (subS a b) ∧ w.heap.size ≤ B ∧ w.heap.size ≤ C ∧ Kp Nb w w' := by
  obtain ⟨cap1, hb1, hs1⟩ := h1.sl
  obtain ⟨cap2, hb2, hs2⟩ := h2.sl
  obtain ⟨n, hn⟩ : ∃ n, a.length = n := ⟨_, rfl⟩
  have hn2 : b.length = n := by omega
  rw [hn] at hb1
  rw [hn2] at hb2
  have H1 := hid h1
  have H2 := hid h2
  have B1' := hid hb1
  have B2' := hid hb2
  have CL := hid (fun (w : World) (h : SkAt w B1 C1 a) => kclone_any B1 C1 a w h hbig)
  have HN := hid (show a.length = n ∧ b.length = n ∧ n ≤ 100000 from ⟨hn, hn2, by omega⟩)
  have hlt : n ≤ 100000 := by omega
  clear h1 h2 hs1 hs2 hl hbig hn hn2 hb1 hb2
  go_enter Try.func21, Try.ntmps21
  go_upto_region 3 with fail
  refine region_vals2 [none, none, none, none, none, none, none, none, none, none, none, none, none, none, none, some 0, some 1, some 2, some 3, some 4, some 5, some 6, some 7, some 8, some 9, some 10, none, none, none, none, none, none, none, none, none, none, none, none, none, none, none, none, none, none, none, none, none, none, none, none, none, none, none, none, none] [[(0, none)], [(15, some 0)], [(16, some 1)], [(17, some 2)], [(18, some 3)], [(1, none)], [(20, some 5)], [(21, some 6)], [(22, some 7)], [(23, some 8)], [(19, some 4), (24, some 9)]] [some 15, some 16, some 17, some 18, some 19, some 20, some 21, some 22, some 23, some 24, some 25] [.pointer (some ⟨B1, 0, none⟩), .pointer (some ⟨B1, 0, none⟩), .pointer (some ⟨B1, 0, none⟩), .slice (some ⟨C1, 0, none⟩) n cap1, .int .i64 (n : Int), .pointer (some ⟨B2, 0, none⟩), .pointer (some ⟨B2, 0, none⟩), .pointer (some ⟨B2, 0, none⟩), .slice (some ⟨C2, 0, none⟩) n cap2, .int .i64 (n : Int), .bool false] (fun w' => Hid (Kp Nb w w')) (by kernel_rfl) (by kernel_rfl) (by kernel_rfl) ?hS (VFrom.all (n := 11) (by kernel_rfl) ?hstep) ?hend
  case hstep =>
    refine VFrom.cons (VStep.val _ rfl _ rfl (.pointer (some ⟨B1, 0, none⟩)) rfl trivial (fun ev wq hS he hr => ?_)) ?_
    · have r0 : ev (.tmp 0) = .pointer (some ⟨B1, 0, none⟩) := hr (0, none) (by simp); have hk := he.1; clear hr he
      go_simp
    refine VFrom.cons (VStep.val _ rfl _ rfl (.pointer (some ⟨B1, 0, none⟩)) rfl trivial (fun ev wq hS he hr => ?_)) ?_
    · have r0 : ev (.tmp 15) = .pointer (some ⟨B1, 0, none⟩) := hr (15, some 0) (by simp); have hk := he.1; clear hr he
      go_simp
    refine VFrom.cons (VStep.val _ rfl _ rfl (.pointer (some ⟨B1, 0, none⟩)) rfl trivial (fun ev wq hS he hr => ?_)) ?_
    · have r0 : ev (.tmp 16) = .pointer (some ⟨B1, 0, none⟩) := hr (16, some 1) (by simp); have hk := he.1; clear hr he
      go_simp
    refine VFrom.cons (VStep.val _ rfl _ rfl (.slice (some ⟨C1, 0, none⟩) n cap1) rfl trivial (fun ev wq hS he hr => ?_)) ?_
    · have r0 : ev (.tmp 17) = .pointer (some ⟨B1, 0, none⟩) := hr (17, some 2) (by simp); have hk := he.1; clear hr he
      have c0 := (B1'.out.kept hS.out (fun h => h)).cell 0
      go_simp
    refine VFrom.cons (VStep.val _ rfl _ rfl (.int .i64 (n : Int)) rfl trivial (fun ev wq hS he hr => ?_)) ?_
    · have r0 : ev (.tmp 18) = .slice (some ⟨C1, 0, none⟩) n cap1 := hr (18, some 3) (by simp); have hk := he.1; clear hr he
      go_simp
    refine VFrom.cons (VStep.val _ rfl _ rfl (.pointer (some ⟨B2, 0, none⟩)) rfl trivial (fun ev wq hS he hr => ?_)) ?_
    · have r0 : ev (.tmp 1) = .pointer (some ⟨B2, 0, none⟩) := hr (1, none) (by simp); have hk := he.1; clear hr he
      go_simp
    refine VFrom.cons (VStep.val _ rfl _ rfl (.pointer (some ⟨B2, 0, none⟩)) rfl trivial (fun ev wq hS he hr => ?_)) ?_
    · have r0 : ev (.tmp 20) = .pointer (some ⟨B2, 0, none⟩) := hr (20, some 5) (by simp); have hk := he.1; clear hr he
      go_simp
    refine VFrom.cons (VStep.val _ rfl _ rfl (.pointer (some ⟨B2, 0, none⟩)) rfl trivial (fun ev wq hS he hr => ?_)) ?_
    · have r0 : ev (.tmp 21) = .pointer (some ⟨B2, 0, none⟩) := hr (21, some 6) (by simp); have hk := he.1; clear hr he
      go_simp
    refine VFrom.cons (VStep.val _ rfl _ rfl (.slice (some ⟨C2, 0, none⟩) n cap2) rfl trivial (fun ev wq hS he hr => ?_)) ?_
    · have r0 : ev (.tmp 22) = .pointer (some ⟨B2, 0, none⟩) := hr (22, some 7) (by simp); have hk := he.1; clear hr he
      have c0 := (B2'.out.kept hS.out (fun h => h)).cell 0
      go_simp
    refine VFrom.cons (VStep.val _ rfl _ rfl (.int .i64 (n : Int)) rfl trivial (fun ev wq hS he hr => ?_)) ?_
    · have r0 : ev (.tmp 23) = .slice (some ⟨C2, 0, none⟩) n cap2 := hr (23, some 8) (by simp); have hk := he.1; clear hr he
      go_simp
    refine VFrom.cons (VStep.val _ rfl _ rfl (.bool false) rfl trivial (fun ev wq hS he hr => ?_)) ?_
    · have r0 : ev (.tmp 19) = .int .i64 (n : Int) := hr (19, some 4) (by simp); have r1 : ev (.tmp 24) = .int .i64 (n : Int) := hr (24, some 9) (by simp); have hk := he.1; clear hr he
      go_simp
    exact VFrom.nil
  case hS => exact hid ((Kp.refl Nb w).drew)
  case hend =>
    intro w3 h3
    have K3 := hid h3.out
    have S1 := hid (H1.out.kept K3.out (fun h => h) (fun h => h))
    have S2 := hid (H2.out.kept K3.out (fun h => h) (fun h => h))
    clear h3
    simp only [putAll, List.zip_cons_cons, List.zip_nil_right, List.foldl_cons, List.foldl_nil, Act.put, List.setIfInBounds_toArray, List.set_cons_zero, List.set_cons_succ]
    go_wp2_with fail
    refine (CL.out _ S1.out).mono ?_
    rintro e w4 ⟨B, C, rfl, s4, lB, lC, k4⟩
    have S2' := hid (S2.out.kept k4 (fun h => h) (fun h => h))
    obtain ⟨cap, rest, hb4, hc4, hn4, hm4⟩ := s4.at'
    have HNE := hid s4.ne
    have AO := hid s4.ok
    have BO := hid S2'.out.ok
    have POS := hid s4.pos
    obtain ⟨cap2', hb5, hs5⟩ := S2'.out.sl
    rw [HN.out.1] at hb4 hn4
    rw [HN.out.2.1] at hb5
    have X4 : Hid (Blk w4 C 41 (rws (subP a b 0) ++ rest)) := hid hc4
    have B4 := hid hb4
    have HS5 := hid hs5
    have hcap : n ≤ cap ∧ cap ≤ 9223372036854775807 := ⟨hn4, by unfold maxLen at hm4; omega⟩
    have FC := hid hcap
    have LL := hid (show w.heap.size ≤ B ∧ w.heap.size ≤ C ∧ w3.heap.size ≤ B ∧ w3.heap.size ≤ C from ⟨Nat.le_trans K3.out.size lB, Nat.le_trans K3.out.size lC, lB, lC⟩)
    have K4 := hid (K3.out.trans k4 (fun _ _ h => h))
    have LB2 := hid hb5.lt
    have HC2 := hid (S2.out.lt)
    have c5 := hb5.cell 0
    simp only [List.getElem?_cons_zero] at c5
    have hs5' := hs5
    rcases hs5 with ⟨_, he⟩ | ⟨C2', o2, cp, e1, g1, g2, g3⟩
    · have := POS.out; have := HN.out; rw [he] at this; simp at this; omega
    injection e1 with e1 e2 e3
    injection e1 with e1
    injection e1 with e1 e4 e5
    subst e1 e4 e3
    have G3 := hid g3
    rw [HN.out.2.1] at g1
    clear s4 k4 hb4 hc4 hn4 hm4 hs5' lB lC S2 S2' HS5 hb5 e2 e5 g3
    go_wp2
    go_loopw [33] (SubR w4 C n rest (subP a b)) (fun i _ => n - (intOf i).toNat)
    case atStart => exact ⟨0, Nat.zero_le _, rfl, X4, hid (Kp.refl _ _)⟩
    case round =>
      clear X4 c5
      obtain ⟨k, hk, rfl, HA, HK⟩ := hrel
      by_cases hlt' : k < n
      · have XC : Hid (wr.rangeAt C2 (k * 18) (cl (celAt b k))) := hid (fun j v hv => HK.out.cell (by have h := G3.out k (by rw [HN.out.2.1]; exact hlt') j v hv; rw [Nat.zero_add] at h; exact h) (fun h => by have h' : C2 = C := h; have := HC2.out.2; have := LL.out; omega))
        have YO := hid (BO.out.at k)
        have OK := hid (subP_ok AO.out (b := b) k)
        have LEN : Hid ((subP a b k).length = n) := hid (by rw [subP_length, HN.out.1])
        have HQ : Hid (subP a b (k + 1) = (subP a b k).set k (subC (celAt (subP a b k) k) (celAt b k))) := hid rfl
        have XR := hid (flat_range (z := c0) HA.out OK.out.len k (by rw [LEN.out]; exact hlt') (cl_length (OK.out.at _)))
        have XR' : Hid (wr.rangeAt C (k * 18) (cl (celAt (subP a b k) k))) := XR
        have UO := hid (OK.out.at k)
        have B5 := hid (B4.out.kept HK.out (fun h => HNE.out h))
        clear XR
        generalize celAt (subP a b k) k = u at HQ XR' UO
        generalize celAt b k = X at HQ XC YO
        generalize subP a b k = ck at HA OK LEN HQ
        obtain ⟨Y, hY⟩ : ∃ Y, Y = subC u X := ⟨_, rfl⟩
        rw [← hY] at HQ
        have YO2 : Hid (CelOk Y) := hid (by rw [hY]; exact subC_ok)
        have CY : Hid (∀ w, Calls Try.prog 45 #[cv u, cv X] w fun e w' => e = .returned (cv Y) ∧ Kp Nb w w') := hid (fun w => by rw [hY]; exact csub_c u X w UO.out YO.out)
        obtain ⟨du, hu, hd⟩ := cell_under
        have HU := hid hu
        have CI := hid (cell_infoL X.1 X.2.1 X.2.2 YO.out.mark.len)
        have hz := Blk.new wr 41 (cl c0)
        obtain ⟨W2, hW2⟩ : ∃ W, W = (wr.alloc (.cells (cl c0).toArray 41)).setCells wr.heap.size 0 (cl X) := ⟨_, rfl⟩
        have kW : Kp Nb wr W2 := by rw [hW2]; exact Kp.setCells (fun h => absurd h (Nat.lt_irrefl _)) _ 0 _ ((Kp.refl Nb wr).alloc _)
        have TH := hid (cell_there hz (cl_length c0_ok) YO.out)
        have SI := hid (cell_sized YO.out)
        have ON := hid (all_oneCell_toArray (cellL_one X.1 X.2.1 X.2.2))
        have HZ : Hid (Blk W2 wr.heap.size 41 (cl X)) := hid (by rw [hW2]; exact row_set hz (by rw [cl_length c0_ok, cl_length YO.out]))
        have HA2 := hid (HA.out.kept kW (fun h => h))
        have XR2 := hid (range_kept XR'.out kW)
        have B6 := hid (B5.out.kept kW (fun h => h))
        have HK2 := hid (HK.out.trans kW (fun _ _ h => h.elim))
        clear hz kW HA XR' B5 HK hu hY
        have h0k : 0 ≤ (k : Int) := by omega
        go_upto_region 9 with (first
          | (refine wpList_load_mid (by rfl) 41 (.tmp 36) (by rfl) C2 (k * 18) (by rfl) (cl X) du XC.out HU.out hd CI.out ?_)
          | (refine wpList_store_mid (by rfl) 41 (.tmp 8) (.tmp 37) (by rfl) wr.heap.size 0 (cl X).toArray (by rfl) (by rfl) TH.out SI.out ON.out ?_))
        rw [show (wr.alloc (.cells #[.int .i64 0, .int .u8 0, .int .u8 0, .int .u8 0, .int .u8 0, .int .u8 0, .int .u8 0, .int .u8 0, .int .u8 0, .int .u8 0, .int .u8 0, .int .u8 0, .int .u8 0, .int .u8 0, .int .u8 0, .int .u8 0, .int .u8 0, .int .u64 0] 41)).setCells wr.heap.size 0 (cl X) = W2 from hW2.symm]
        clear hW2 TH SI ON h0k
        obtain ⟨M, hM⟩ : ∃ M, wr.heap.size = M := ⟨_, rfl⟩
        rw [hM] at HZ ⊢
        clear hM
        have PZ : Hid ((0 : Int) ≤ (k : Int)) := hid (by omega)
        have PL : Hid ((k : Int) < (n : Int)) := hid (by omega)
        have PT : Hid (((k : Nat) : Int).toNat = k) := hid (by omega)
        have HPN := hid hlt'
        refine region_vals_last (n := 15) [none, none, none, none, none, none, none, none, none, none, none, none, none, none, none, none, none, none, none, none, none, none, none, none, none, none, none, none, none, none, none, none, none, none, none, none, none, none, some 0, some 1, some 2, some 3, some 4, some 5, some 6, some 7, some 8, some 9, some 10, some 11, some 12, some 13, some 14, none, none] [[(6, none)], [(38, some 0)], [(39, some 1)], [(40, some 2)], [(7, none)], [(6, none)], [(43, some 5)], [(44, some 6)], [(45, some 7)], [(7, none)], [(46, some 8), (47, some 9)], [(48, some 10)], [(8, none)], [(49, some 11), (50, some 12)], [(41, some 3), (42, some 4)], [(52, some 14), (51, some 13)]] [some 38, some 39, some 40, some 41, some 42, some 43, some 44, some 45, some 46, some 47, some 48, some 49, some 50, some 51, some 52] [.pointer (some ⟨B, 0, none⟩), .pointer (some ⟨B, 0, none⟩), .pointer (some ⟨B, 0, none⟩), .slice (some ⟨C, 0, none⟩) n cap, .int .i64 (k : Int), .pointer (some ⟨B, 0, none⟩), .pointer (some ⟨B, 0, none⟩), .pointer (some ⟨B, 0, none⟩), .slice (some ⟨C, 0, none⟩) n cap, .int .i64 (k : Int), .pointer (some ⟨C, k * 18, none⟩), cv u, cv X, cv Y, .pointer (some ⟨C, k * 18, none⟩)] (fun w' => Hid (Kp Nb W2 w')) (by kernel_rfl) (by kernel_rfl) (by kernel_rfl) (by kernel_rfl) ({ dst := none, op := Op.store 41 (Operand.tmp 52) (Operand.tmp 51), type := 0, pos := "iblt.go:119", after := #[{ on := 14, ground := Ground.data }, { on := 13, ground := Ground.data }, { on := 13, ground := Ground.chain }, { on := 0, ground := Ground.phase }, { on := 1, ground := Ground.phase }, { on := 2, ground := Ground.phase }, { on := 3, ground := Ground.phase }, { on := 4, ground := Ground.phase }, { on := 5, ground := Ground.phase }, { on := 6, ground := Ground.phase }, { on := 7, ground := Ground.phase }, { on := 8, ground := Ground.phase }, { on := 9, ground := Ground.phase }, { on := 10, ground := Ground.phase }, { on := 11, ground := Ground.phase }, { on := 12, ground := Ground.phase }, { on := 13, ground := Ground.phase }], guard := none }) rfl rfl (by kernel_rfl) (by kernel_rfl) ?hS (?hstep : VFrom _ _ _ _ _ _ 0 15).start ?hend
        case hstep =>
          refine VFrom.cons (VStep.val _ rfl _ rfl (.pointer (some ⟨B, 0, none⟩)) rfl trivial (fun ev wq hS he hr => ?_)) ?_
          · have r0 : ev (.tmp 6) = .pointer (some ⟨B, 0, none⟩) := hr (6, none) (by simp); have hk := he.1; clear hr he
            go_simp
          refine VFrom.cons (VStep.val _ rfl _ rfl (.pointer (some ⟨B, 0, none⟩)) rfl trivial (fun ev wq hS he hr => ?_)) ?_
          · have r0 : ev (.tmp 38) = .pointer (some ⟨B, 0, none⟩) := hr (38, some 0) (by simp); have hk := he.1; clear hr he
            go_simp
          refine VFrom.cons (VStep.val _ rfl _ rfl (.pointer (some ⟨B, 0, none⟩)) rfl trivial (fun ev wq hS he hr => ?_)) ?_
          · have r0 : ev (.tmp 39) = .pointer (some ⟨B, 0, none⟩) := hr (39, some 1) (by simp); have hk := he.1; clear hr he
            go_simp
          refine VFrom.cons (VStep.val _ rfl _ rfl (.slice (some ⟨C, 0, none⟩) n cap) rfl trivial (fun ev wq hS he hr => ?_)) ?_
          · have r0 : ev (.tmp 40) = .pointer (some ⟨B, 0, none⟩) := hr (40, some 2) (by simp); have hk := he.1; clear hr he
            have c0 := (B6.out.kept hS.out (fun h => h)).cell 0
            go_simp
          refine VFrom.cons (VStep.val _ rfl _ rfl (.int .i64 (k : Int)) rfl trivial (fun ev wq hS he hr => ?_)) ?_
          · have r0 : ev (.tmp 7) = .int .i64 (k : Int) := hr (7, none) (by simp); have hk := he.1; clear hr he
            go_simp
          refine VFrom.cons (VStep.val _ rfl _ rfl (.pointer (some ⟨B, 0, none⟩)) rfl trivial (fun ev wq hS he hr => ?_)) ?_
          · have r0 : ev (.tmp 6) = .pointer (some ⟨B, 0, none⟩) := hr (6, none) (by simp); have hk := he.1; clear hr he
            go_simp
          refine VFrom.cons (VStep.val _ rfl _ rfl (.pointer (some ⟨B, 0, none⟩)) rfl trivial (fun ev wq hS he hr => ?_)) ?_
          · have r0 : ev (.tmp 43) = .pointer (some ⟨B, 0, none⟩) := hr (43, some 5) (by simp); have hk := he.1; clear hr he
            go_simp
          refine VFrom.cons (VStep.val _ rfl _ rfl (.pointer (some ⟨B, 0, none⟩)) rfl trivial (fun ev wq hS he hr => ?_)) ?_
          · have r0 : ev (.tmp 44) = .pointer (some ⟨B, 0, none⟩) := hr (44, some 6) (by simp); have hk := he.1; clear hr he
            go_simp
          refine VFrom.cons (VStep.val _ rfl _ rfl (.slice (some ⟨C, 0, none⟩) n cap) rfl trivial (fun ev wq hS he hr => ?_)) ?_
          · have r0 : ev (.tmp 45) = .pointer (some ⟨B, 0, none⟩) := hr (45, some 7) (by simp); have hk := he.1; clear hr he
            have c0 := (B6.out.kept hS.out (fun h => h)).cell 0
            go_simp
          refine VFrom.cons (VStep.val _ rfl _ rfl (.int .i64 (k : Int)) rfl trivial (fun ev wq hS he hr => ?_)) ?_
          · have r0 : ev (.tmp 7) = .int .i64 (k : Int) := hr (7, none) (by simp); have hk := he.1; clear hr he
            go_simp
          refine VFrom.cons (VStep.val _ rfl _ rfl (.pointer (some ⟨C, k * 18, none⟩)) rfl trivial (fun ev wq hS he hr => ?_)) ?_
          · have r0 : ev (.tmp 46) = .slice (some ⟨C, 0, none⟩) n cap := hr (46, some 8) (by simp); have r1 : ev (.tmp 47) = .int .i64 (k : Int) := hr (47, some 9) (by simp); have hk := he.1; clear hr he
            have e1 := PZ.out; have e2 := PL.out; have e3 := PT.out; have e4 := FC.out
            go_simp
          refine VFrom.cons (VStep.val _ rfl _ rfl (cv u) rfl trivial (fun ev wq hS he hr => ?_)) ?_
          · have r0 : ev (.tmp 48) = .pointer (some ⟨C, k * 18, none⟩) := hr (48, some 10) (by simp); have hk := he.1; clear hr he
            exact exec_load rfl r0 (load_cell UO.out (range_kept XR2.out hS.out))
          refine VFrom.cons (VStep.val _ rfl _ rfl (cv X) rfl trivial (fun ev wq hS he hr => ?_)) ?_
          · have r0 : ev (.tmp 8) = .pointer (some ⟨M, 0, none⟩) := hr (8, none) (by simp); have hk := he.1; clear hr he
            exact exec_load rfl r0 (load_cell YO.out (range_of (HZ.out.kept hS.out (fun h => h))))
          refine VFrom.cons (VStep.call _ rfl _ rfl (cv Y) rfl trivial 45 #[cv u, cv X] (fun ev wq hS he hr => ?_) (fun wq hS => ?_)) ?_
          · have r0 : ev (.tmp 49) = cv u := hr (49, some 11) (by simp); have r1 : ev (.tmp 50) = cv X := hr (50, some 12) (by simp); have hk := he.1; have hf := he.2; clear hr he
            go_simp
          · exact (CY.out wq).mono fun e w' ⟨h1, h2⟩ => ⟨h1, hS.out.trans h2 (fun _ _ h => h)⟩
          refine VFrom.cons (VStep.val _ rfl _ rfl (.pointer (some ⟨C, k * 18, none⟩)) rfl trivial (fun ev wq hS he hr => ?_)) ?_
          · have r0 : ev (.tmp 41) = .slice (some ⟨C, 0, none⟩) n cap := hr (41, some 3) (by simp); have r1 : ev (.tmp 42) = .int .i64 (k : Int) := hr (42, some 4) (by simp); have hk := he.1; clear hr he
            have e1 := PZ.out; have e2 := PL.out; have e3 := PT.out; have e4 := FC.out
            go_simp
          exact VFrom.nil
        case hS => exact hid ((Kp.refl Nb W2).drew)
        case hend =>
          intro af wy haf kh
          have HE := HA2.out.kept kh.out (fun h => h)
          have HA3 : Hid (Blk (wy.setCells C (k * 18) (cl Y)) C 41 (rws (subP a b (k + 1)) ++ rest)) := hid (by rw [HQ.out]; exact flat_put HE OK.out.len k Y (by rw [LEN.out]; exact HPN.out) (cl_length YO2.out))
          have HK3 : Hid (Kp (Jb C) w4 (wy.setCells C (k * 18) (cl Y))) := hid (Kp.setCells (S := Jb C) (fun _ => show C = C from rfl) _ _ _ (HK2.out.trans kh.out (fun _ _ h => h.elim)))
          refine cv_put (x := Y) (o := k * 18) (ad := .tmp 52) (v := .tmp 51) YO2.out (flat_there HE OK.out.len k (by rw [LEN.out]; exact HPN.out)) rfl (by rw [haf.out]; kernel_rfl) (by rw [haf.out]; kernel_rfl) ?_
          rw [haf.out]
          clear haf kh HE
          simp only [putAll, List.zip_cons_cons, List.zip_nil_right, List.foldl_cons, List.foldl_nil, Act.put, List.setIfInBounds_toArray, List.set_cons_zero, List.set_cons_succ]
          go_wp2
          go_roundw
          case rel => exact ⟨k + 1, by omega, by go_num, HA3, HK3⟩
          case measure => simp [intOf]; omega
      · obtain rfl : k = n := by omega
        have B5 := B4.out.kept HK.out (fun h => HNE.out h)
        have S7 : Hid (SkAt wr B C (subS a b)) := hid ⟨subP_ok AO.out _, ⟨cap, rest, by rw [show (subS a b).length = a.length from subP_length _ _ _, HN.out.1]; exact B5, by unfold subS; rw [HN.out.1]; exact HA.out, by rw [show (subS a b).length = a.length from subP_length _ _ _, HN.out.1]; exact FC.out.1, by unfold maxLen; exact FC.out.2⟩, by rw [show (subS a b).length = a.length from subP_length _ _ _]; exact POS.out, HNE.out⟩
        have K7 := hid (K4.out.trans HK.out (fun i hi h => by have h' : i = C := h; have := LL.out; omega))
        clear B5 HA HK
        go_wp2
        go_ret2
        exact ⟨B, C, rfl, S7.out, LL.out.1, LL.out.2.1, K7.out⟩

end Go.Proofs.Yteedceepoindeaa
