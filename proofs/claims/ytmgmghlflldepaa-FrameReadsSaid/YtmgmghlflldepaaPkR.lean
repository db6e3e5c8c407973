/-
  Layer 19: the law FrameHolds. Conditions: bytes.
  Layer 19: the region of FrameJoined that appends to two rows, as a ghost's state; the frames of a list. No condition.
  Layer 19: the law FrameJoined. Conditions: bytes.
-/
import Derived.Test.YtmgmghlflldepaaPkQ
import Derived.Test.YtmgmghlflldepaaVars
import Derived.Test.YtmgmghlflldepaaGhostL
namespace Go.Proofs.Ytmgmghlflldepaa
open Go.RowKit Go.Shelf
attribute [local go_sem] Oper.semAt_some

/-- A case's cells. -/
abbrev caseL (vb : Value) (k : Int) (vf : Value) (m a c x : Int) : List Value := [vb, .int .i64 k, vf, .int .i64 m, .int .i64 a, .int .u16 c, .int .u8 x]
abbrev caseV (vb : Value) (k : Int) (vf : Value) (m a c x : Int) : Value := .agg #[vb, .int .i64 k, vf, .int .i64 m, .int .i64 a, .int .u16 c, .int .u8 x]
theorem case_fr {w : World} {D : Nat} {vb vf : Value} {k m a c x : Int} (h : Blk w D 39 (caseL vb k vf m a c x)) : (Instr.loadAt 24 (.pointer (some ⟨D, 1, none⟩))).run Try.prog w = .ok (frV k vf) w :=
  frr_load (h.range 1 (frL k vf) (fun j hj => by
    rcases j with _ | _ | j
    · rfl
    · rfl
    · simp at hj; omega))
theorem fr_store {w : World} {B : Nat} {k : Int} {v : Value} (hv : v.oneCell' = true) (ht : w.there B 0 2) : (Instr.storeAt 24 (.pointer (some ⟨B, 0, none⟩)) (frV k v)).run Try.prog w = .ok () (w.setCells B 0 (frL k v)) :=
  run_storeAt_mid w B 0 24 (frL k v).toArray ht (by rw [List.size_toArray]; exact fr_infoL k v) (all_oneCell_toArray (frL_one k v hv))
def fvT : Nat → TypeId := fun _ => 24
def fvZ : Nat → List Value := fun _ => frL 0 (.slice none 0 0)
def fvV (k : Int) (v : Value) : Nat → List Value := fun _ => frL k v

set_option maxRecDepth 100000 in
set_option maxHeartbeats 16000000 in
theorem fholds_any (vb vf : Value) (more zs : List Int) (k m a c x : Int) (w : World) (hb : BySl Nb w vb more) (hf : BySl Nb w vf zs) (hc : 0 ≤ c ∧ c < 65536) (hx : 0 ≤ x ∧ x < 256) :
    Calls Try.prog 5 #[caseV vb k vf m a c x] w fun e w' => e = .returned (.bool true) ∧ Kp Nb w w' := by
  obtain ⟨yb, db, rfl⟩ := hb.shp
  obtain ⟨yf, df, rfl⟩ := hf.shp
  obtain ⟨Lb, hLb⟩ : ∃ L, more.length = L := ⟨_, rfl⟩
  obtain ⟨Lf, hLf⟩ : ∃ L, zs.length = L := ⟨_, rfl⟩
  rw [hLb] at hb ⊢
  rw [hLf] at hf ⊢
  have HLb := hid hLb
  have HLf := hid hLf
  obtain ⟨cn, rfl⟩ : ∃ cn : Nat, c = (cn : Int) := ⟨c.toNat, by omega⟩
  have HC : Hid (cn < 65536) := hid (by omega)
  have HX := hid hx
  obtain ⟨D, hD⟩ : ∃ D, w.heap.size = D := ⟨_, rfl⟩
  obtain ⟨W, hW⟩ : ∃ W, W = w.alloc (.cells (caseL (.slice yb Lb db) k (.slice yf Lf df) m a cn x).toArray 39) := ⟨_, rfl⟩
  have H0 : Hid (Blk W D 39 (caseL (.slice yb Lb db) k (.slice yf Lf df) m a cn x)) := hid (by rw [hW, ← hD]; exact Blk.new w _ _)
  have k0 : Kp Nb w W := by rw [hW]; exact (Kp.refl Nb w).alloc _
  have K0 := hid k0
  have HB0 := hid (hb.kept k0 (fun _ h => h))
  have HF0 := hid (hf.kept k0 (fun _ h => h))
  clear hb hf hLb hLf k0 hc hx
  go_enter Try.func5, Try.ntmps5
  go_upto_region 1 with fail
  rw [show w.alloc (.cells #[.slice yb Lb db, .int .i64 k, .slice yf Lf df, .int .i64 m, .int .i64 a, .int .u16 (cn : Int), .int .u8 x] 39) = W from hW.symm]
  clear hW hD
  go_wp2_with fail
  refine (ffirst_any _).mono ?_
  rintro e w1 ⟨rfl, k1⟩
  have H1 := hid (H0.out.kept k1 (fun h => h))
  have HB1 := hid (HB0.out.kept k1 (fun _ h => h))
  have HF1 := hid (HF0.out.kept k1 (fun _ h => h))
  have K1 := hid (K0.out.trans k1 (fun _ _ h => h))
  clear k1 H0 HB0 HF0 K0
  go_upto_region 3 with fail
  refine region_ghost (g0 := (fun _ => 0)) [none, none, none, some 8, some 10, some 11, some 12, none, none, none, none, none, none, none, none, none, none, none, some 0, some 1, some 2, some 3, some 4, some 5, some 6, some 7, none, none, none, none, none, none, none, none, none, none, none, none, none, none, none, none, none, none, none, none, none, none, none, none, none, none, none, none, none, none, none, none, none, none, none, none, none, none, none, none, none, none, none, none, none, none, none, none, none, none, none, none, none, none, none, none, none, none, none, none, none, none, none, none, none, none, none, none, none, none, none, none, none, none, none, none, none, none, none, none, none, none, none, none, none] [[(1, none)], [(18, some 0)], [(1, none)], [(20, some 2)], [(1, none)], [(22, some 4)], [(1, none)], [(24, some 6)], [], [(3, some 8), (19, some 1)], [(21, some 3)], [(23, some 5)], [(25, some 7)]] [some 18, some 19, some 20, some 21, some 22, some 23, some 24, some 25, some 3, none, some 4, some 5, some 6] (fun g => [.pointer (some ⟨D, 1, none⟩), frV k (.slice yf Lf df), .pointer (some ⟨D, 5, none⟩), .int .u16 (cn : Int), .pointer (some ⟨D, 0, none⟩), .slice yb Lb db, .pointer (some ⟨D, 6, none⟩), .int .u8 x, .pointer (some ⟨(g 0), 0, none⟩), undef, .int .u16 (cn : Int), .slice yb Lb db, .int .u8 x]) [8, 9] (fun bs g wq => Hid (VarsS w1 1 fvT fvZ (fvV k (.slice yf Lf df)) bs g wq)) (by kernel_rfl) (by kernel_rfl) (fun g => by kernel_rfl) (by kernel_rfl) ?hS (GFrom.all (n := 13) (by kernel_rfl) ?hstep) ?hend
  case hstep =>
    refine GFrom.cons (GStep.val _ rfl rfl _ rfl (fun g => .pointer (some ⟨D, 1, none⟩)) (fun _ => rfl) (fun _ => trivial) (fun bs g ev wq hS he hr => ?_)) ?_
    · have r0 : ev (.tmp 1) = .pointer (some ⟨D, 0, none⟩) := hr (1, none) (by simp); have hk := he.1; clear hr he
      go_simp
    refine GFrom.cons (GStep.val _ rfl rfl _ rfl (fun g => frV k (.slice yf Lf df)) (fun _ => rfl) (fun _ => trivial) (fun bs g ev wq hS he hr => ?_)) ?_
    · have r0 : ev (.tmp 18) = .pointer (some ⟨D, 1, none⟩) := hr (18, some 0) (by simp); have hk := he.1; clear hr he
      exact exec_load rfl r0 (case_fr (H1.out.kept hS.out.kp (fun h => h)))
    refine GFrom.cons (GStep.val _ rfl rfl _ rfl (fun g => .pointer (some ⟨D, 5, none⟩)) (fun _ => rfl) (fun _ => trivial) (fun bs g ev wq hS he hr => ?_)) ?_
    · have r0 : ev (.tmp 1) = .pointer (some ⟨D, 0, none⟩) := hr (1, none) (by simp); have hk := he.1; clear hr he
      go_simp
    refine GFrom.cons (GStep.val _ rfl rfl _ rfl (fun g => .int .u16 (cn : Int)) (fun _ => rfl) (fun _ => trivial) (fun bs g ev wq hS he hr => ?_)) ?_
    · have r0 : ev (.tmp 20) = .pointer (some ⟨D, 5, none⟩) := hr (20, some 2) (by simp); have hk := he.1; clear hr he
      have c0 := (H1.out.kept hS.out.kp (fun h => h)).cell 5
      go_simp
    refine GFrom.cons (GStep.val _ rfl rfl _ rfl (fun g => .pointer (some ⟨D, 0, none⟩)) (fun _ => rfl) (fun _ => trivial) (fun bs g ev wq hS he hr => ?_)) ?_
    · have r0 : ev (.tmp 1) = .pointer (some ⟨D, 0, none⟩) := hr (1, none) (by simp); have hk := he.1; clear hr he
      go_simp
    refine GFrom.cons (GStep.val _ rfl rfl _ rfl (fun g => .slice yb Lb db) (fun _ => rfl) (fun _ => trivial) (fun bs g ev wq hS he hr => ?_)) ?_
    · have r0 : ev (.tmp 22) = .pointer (some ⟨D, 0, none⟩) := hr (22, some 4) (by simp); have hk := he.1; clear hr he
      have c0 := (H1.out.kept hS.out.kp (fun h => h)).cell 0
      go_simp
    refine GFrom.cons (GStep.val _ rfl rfl _ rfl (fun g => .pointer (some ⟨D, 6, none⟩)) (fun _ => rfl) (fun _ => trivial) (fun bs g ev wq hS he hr => ?_)) ?_
    · have r0 : ev (.tmp 1) = .pointer (some ⟨D, 0, none⟩) := hr (1, none) (by simp); have hk := he.1; clear hr he
      go_simp
    refine GFrom.cons (GStep.val _ rfl rfl _ rfl (fun g => .int .u8 x) (fun _ => rfl) (fun _ => trivial) (fun bs g ev wq hS he hr => ?_)) ?_
    · have r0 : ev (.tmp 24) = .pointer (some ⟨D, 6, none⟩) := hr (24, some 6) (by simp); have hk := he.1; clear hr he
      have c0 := (H1.out.kept hS.out.kp (fun h => h)).cell 6
      go_simp
    refine GFrom.cons (GStep.valloc 0 _ rfl (by decide) rfl rfl rfl 9 _ rfl rfl (by kernel_rfl) (fun g x => by kernel_rfl) (fun g => by simp) (fun ev w => by go_simp; rfl)) ?_
    refine GFrom.cons (GStep.vfill 0 _ rfl (by decide) rfl rfl rfl 8 rfl (by kernel_rfl) (rfl) (fun _ => rfl) _ rfl (fun g ev wq he hr ht => ?_)) ?_
    · have r0 : ev (.tmp 3) = .pointer (some ⟨(g 0), 0, none⟩) := hr (3, some 8) (by simp); have r1 : ev (.tmp 19) = frV k (.slice yf Lf df) := hr (19, some 1) (by simp); have hk := he.1; clear hr he
      exact exec_store rfl r0 r1 (fr_store rfl ht)
    refine GFrom.cons (GStep.val _ rfl rfl _ rfl (fun g => .int .u16 (cn : Int)) (fun _ => rfl) (fun _ => trivial) (fun bs g ev wq hS he hr => ?_)) ?_
    · have r0 : ev (.tmp 21) = .int .u16 (cn : Int) := hr (21, some 3) (by simp); have hk := he.1; clear hr he
      go_simp
    refine GFrom.cons (GStep.val _ rfl rfl _ rfl (fun g => .slice yb Lb db) (fun _ => rfl) (fun _ => trivial) (fun bs g ev wq hS he hr => ?_)) ?_
    · have r0 : ev (.tmp 23) = .slice yb Lb db := hr (23, some 5) (by simp); have hk := he.1; clear hr he
      go_simp
    refine GFrom.cons (GStep.val _ rfl rfl _ rfl (fun g => .int .u8 x) (fun _ => rfl) (fun _ => trivial) (fun bs g ev wq hS he hr => ?_)) ?_
    · have r0 : ev (.tmp 25) = .int .u8 x := hr (25, some 7) (by simp); have hk := he.1; clear hr he
      go_simp
    exact GFrom.nil
  case hS => exact VarsS.start _ _ _ _ _ _ _
  case hend =>
    intro g w2 h2
    have hd := h2.out.done rfl
    have q0 : w1.heap.size ≤ g 0 ∧ Blk w2 (g 0) 24 (frL k (.slice yf Lf df)) := hd.1 0 (by decide)
    have k2 := h2.out.kp
    clear hd h2
    generalize g 0 = b3 at q0 ⊢
    have Q0 := hid q0.2
    have HB2 := hid (HB1.out.kept k2 (fun _ h => h))
    have HF2 := hid (HF1.out.kept k2 (fun _ h => h))
    have K2 := hid (K1.out.trans k2 (fun _ _ h => h))
    clear q0 k2 K1 HB1 HF1 H1 g
    simp only [putAll, List.zip_cons_cons, List.zip_nil_right, List.foldl_cons, List.foldl_nil, Act.put, List.setIfInBounds_toArray, List.set_cons_zero, List.set_cons_succ]
    by_cases hl : 500 < Lb
    · have d1 : decide ((Lb : Int) > 500) = true := decide_eq_true (by omega)
      go_wp2
      go_ret
      exact ⟨rfl, K2.out⟩
    have d1 : decide ((Lb : Int) > 500) = false := decide_eq_false (by omega)
    have HN := hid (Nat.not_lt.1 hl)
    clear hl
    have c0 := Q0.out.cell 0
    have c1 := Q0.out.cell 1
    simp only [List.getElem?_cons_zero, List.getElem?_cons_succ] at c0 c1
    by_cases hr : rightF k Lf = true
    · have hrz : rightF k zs.length = true := by rw [HLf.out]; exact hr
      obtain ⟨F, hF⟩ : ∃ F, frameF k zs = F := ⟨_, rfl⟩
      obtain ⟨n, hn⟩ : ∃ n, F.length = n := ⟨_, rfl⟩
      have hz := HF2.out.1
      have rp := right_parts hr
      have hfl := frame_length k zs hrz
      have hs3 := sizeN_3 zs.length (by omega) (by have := HLf.out; omega)
      have hcost : costF Lf = (n : Int) := by rw [← hn, ← hF, hfl, HLf.out]
      have HNB : Hid (10 ≤ n ∧ n ≤ 2061) := hid (by
        rw [hF, hn] at hfl
        unfold costF at hfl
        rw [if_pos (by have := HLf.out; omega)] at hfl
        have := HLf.out
        omega)
      have HFL := hid hn
      have BFZ : Hid (IsBytes F) := hid (by rw [← hF]; exact frame_bytes k zs hz hrz)
      have CP : Hid (∀ w, BySl Nb w (.slice yf Lf df) zs → Calls Try.prog 13 #[frV k (.slice yf Lf df)] w fun e w' => ∃ r, e = .returned r ∧ w'.ownsRow w.heap.size 5 1 r n (F.map (Value.int .u8)) ∧ Kp Nb w w') := hid (fun w hv => by
        have h := fput_yes k _ zs w hv hrz
        rw [hF, hn] at h
        exact h)
      have CR : Hid (∀ w, Calls Try.prog 12 #[frV k (.slice yf Lf df)] w fun e w' => e = .returned (.bool true) ∧ Kp Nb w w') := hid (fun w => by rw [← hr]; exact fright_any k yf Lf df w)
      have CRD : Hid (∀ v w, BySl Nb w v F → Calls Try.prog 10 #[v] w fun e w' => ∃ y d, e = .returned (.tuple #[frV k (.slice y Lf d), .int .i64 0]) ∧ BySl Nb w' (.slice y Lf d) zs ∧ Kp Nb w w') := hid (fun v w hv => by
        refine (fread_any v F w hv (by rw [HFL.out]; have := HNB.out; omega)).mono ?_
        rw [← hF, read_frame k zs hz hrz]
        rintro e w' ⟨b, rfl, hb, hk⟩
        obtain ⟨y, d, rfl⟩ := hb.shp
        rw [HLf.out] at hb ⊢
        exact ⟨y, d, rfl, hb, hk⟩)
      have CRE : Hid (∀ v zs w (E : Int), BySl Nb w v zs → zs.length ≤ 3000 → (readF zs).2.2 = E → Calls Try.prog 10 #[v] w fun e w' => ∃ k n y d, e = .returned (.tuple #[frV k (.slice y n d), .int .i64 E]) ∧ Kp Nb w w') := hid (fun v zs w E hv hl hE => by
        refine (fread_any v zs w hv (by omega)).mono ?_
        rw [hE]
        rintro e w' ⟨b, rfl, hb, hk⟩
        obtain ⟨y, d, rfl⟩ := hb.shp
        exact ⟨_, _, y, d, rfl, hk⟩)
      have RC : Hid (∀ j, j < n → (readF (F.take j)).2.2 = 10) := hid (fun j hj => by
        rw [← hn, ← hF] at hj
        rw [← hF]
        exact read_cut k zs j hz hrz hj)
      have RM : Hid (readF F = (k, zs, 0) ∧ ∀ t, IsBytes t → t ≠ [] → (readF (F ++ t)).2.2 = 13) := hid ⟨by rw [← hF]; exact read_frame k zs hz hrz, fun t ht hne => by rw [← hF]; exact read_more k zs t hz ht hrz hne⟩
      have RT : Hid (∀ i : Nat, i < 8 → (readF (turnB F ((n : Int) - 1 - i) x)).2.2 = if x = 0 then 0 else 14) := hid (fun i hi => by
        have h := read_turn k zs i x hz hrz hi HX.out
        rw [hF, hn] at h
        exact h)
      have CCO : Hid (∀ w, Calls Try.prog 15 #[.int .i64 (Lf : Int)] w fun e w' => e = .returned (.int .i64 (n : Int)) ∧ w = w') := hid (fun w => by rw [← hcost]; exact fcost_any Lf w)
      have CSM : Hid (∀ u v wq, BySl Nb wq u zs → BySl Nb wq v zs → Calls Try.prog 14 #[frV k u, frV k v] wq fun e w' => e = .returned (.bool true) ∧ Kp Nb wq w') := hid (fun u v wq h1 h2 => by
        have h := fsame_any k k u v zs zs wq h1 h2
        rw [show sameF k k zs zs = true from by simp [sameF]] at h
        exact h)
      clear hF hn hz rp hfl hs3 hcost hr hrz
      go_wp2_with fail
      refine (CP.out _ HF2.out).mono ?_
      rintro e w3 ⟨r, rfl, ow, k3⟩
      obtain ⟨gb, cb, rfl⟩ := own_pos ow (by have := HNB.out; omega)
      have BR3 : Hid (BySl Nb w3 (.slice (some ⟨gb, 0, none⟩) n cb) F) := hid (BySl.ofOwn (base := w2.heap.size) (by rw [HFL.out]; exact ow) BFZ.out (fun _ _ _ h => h))
      have HB3 := hid (HB2.out.kept k3 (fun _ h => h))
      have HF3 := hid (HF2.out.kept k3 (fun _ h => h))
      have Q3 := hid (Q0.out.kept k3 (fun h => h))
      have K3 := hid (K2.out.trans k3 (fun _ _ h => h))
      have c0 := Q3.out.cell 0
      have c1 := Q3.out.cell 1
      simp only [List.getElem?_cons_zero, List.getElem?_cons_succ] at c0 c1
      clear ow k3 HB2 HF2 Q0 K2 CP
      go_wp2_with fail
      refine (CR.out _).mono ?_
      rintro e w4 ⟨rfl, k4⟩
      have BR4 := hid (BR3.out.kept k4 (fun _ h => h))
      have HB4 := hid (HB3.out.kept k4 (fun _ h => h))
      have HF4 := hid (HF3.out.kept k4 (fun _ h => h))
      have Q4 := hid (Q3.out.kept k4 (fun h => h))
      have K4 := hid (K3.out.trans k4 (fun _ _ h => h))
      clear k4 BR3 HB3 HF3 Q3 K3 CR c0 c1
      go_wp2_with fail
      refine (CRD.out _ _ BR4.out).mono ?_
      rintro e w5 ⟨y5, d5, rfl, hb5, k5⟩
      obtain ⟨M5, hM5⟩ : ∃ N, w5.heap.size = N := ⟨_, rfl⟩
      obtain ⟨W5, hW5⟩ : ∃ W, W = w5.alloc (.cells (frL k (.slice y5 Lf d5)).toArray 24) := ⟨_, rfl⟩
      have k5' : Kp Nb w4 W5 := by rw [hW5]; exact k5.alloc _
      have BM5 : Hid (Blk W5 M5 24 (frL k (.slice y5 Lf d5))) := hid (by rw [hW5, ← hM5]; exact Blk.new w5 _ _)
      have BB5 : Hid (BySl Nb W5 (.slice y5 Lf d5) zs) := hid (hb5.kept (by rw [hW5]; exact (Kp.refl Nb w5).alloc _) (fun _ h => h))
      have BR5 := hid (BR4.out.kept k5' (fun _ h => h))
      have HB5 := hid (HB4.out.kept k5' (fun _ h => h))
      have HF5 := hid (HF4.out.kept k5' (fun _ h => h))
      have Q5 := hid (Q4.out.kept k5' (fun h => h))
      have K5 := hid (K4.out.trans k5' (fun _ _ h => h))
      clear k5 k5' hb5 BR4 HB4 HF4 Q4 K4 CRD
      go_upto_region 10 with fail
      rw [show w5.alloc (.cells #[.int .i64 k, .slice y5 Lf d5] 24) = W5 from hW5.symm]
      clear hW5 hM5
      have hcn := HC.out
      have hn0 := HNB.out.1
      have hn1 := HNB.out.2
      obtain ⟨q, hq⟩ : ∃ q, cn % n = q := ⟨_, rfl⟩
      obtain ⟨s8, hs8⟩ : ∃ q, cn % 8 = q := ⟨_, rfl⟩
      have hqn : q < n := by rw [← hq]; exact Nat.mod_lt _ (by omega)
      have hsn : s8 < 8 := by omega
      have ht1 : (cn : Int).tmod (n : Int) = (q : Int) := by rw [Int.tmod_eq_emod_of_nonneg (by omega)]; omega
      have ht2 : (cn : Int).tmod 8 = (s8 : Int) := by rw [Int.tmod_eq_emod_of_nonneg (by omega)]; omega
      obtain ⟨xq, dq, VQ, BQ⟩ := BR5.out.cutH q (by rw [HFL.out]; omega)
      have BQ5 := hid BQ
      have HQN := hid hqn
      clear BQ hq hs8
      go_wp2_with fail
      refine (CRE.out _ _ _ 10 BQ5.out (by rw [List.length_take]; omega) (RC.out q HQN.out)).mono ?_
      rintro e w6 ⟨kk6, n6, y6, d6, rfl, k6⟩
      obtain ⟨M6, hM6⟩ : ∃ N, w6.heap.size = N := ⟨_, rfl⟩
      obtain ⟨W6, hW6⟩ : ∃ W, W = w6.alloc (.cells (frL kk6 (.slice y6 n6 d6)).toArray 24) := ⟨_, rfl⟩
      have k6' : Kp Nb W5 W6 := by rw [hW6]; exact k6.alloc _
      have BM6 := hid (BM5.out.kept k6' (fun h => h))
      have BB6 := hid (BB5.out.kept k6' (fun _ h => h))
      have BR6 := hid (BR5.out.kept k6' (fun _ h => h))
      have HB6 := hid (HB5.out.kept k6' (fun _ h => h))
      have HF6 := hid (HF5.out.kept k6' (fun _ h => h))
      have Q6 := hid (Q5.out.kept k6' (fun h => h))
      have K6 := hid (K5.out.trans k6' (fun _ _ h => h))
      clear k6 k6' BM5 BB5 BR5 HB5 HF5 Q5 K5 BQ5 VQ hqn ht1
      go_upto_region 11 with fail
      rw [show w6.alloc (.cells #[.int .i64 kk6, .slice y6 n6 d6] 24) = W6 from hW6.symm]
      clear hW6 hM6
      obtain ⟨i0, z0, hi, hz0, hz1, hz2, hz3⟩ := byte_info3
      have LL : Hid (0 + F.length ≤ maxLen ∧ (0 + F.length) * 1 ≤ 140737488355328 ∧ F.length + more.length ≤ maxLen ∧ (F.length + more.length) * 1 ≤ 140737488355328) := hid (by rw [HFL.out, HLb.out]; have := HN.out; unfold maxLen; omega)
      have FR : Hid (RowsSl bF 0 1 (W6.alloc (.cells #[] 5 (0, 0))) (.slice (some ⟨gb, 0, none⟩) n cb) F) := hid ((rows_by BR6.out).kept ((Kp.refl Nb W6).alloc _))
      have SZ : Hid (W6.heap.size ≤ (W6.alloc (.cells #[] 5 (0, 0))).heap.size) := hid ((Kp.refl Nb W6).alloc _).size
      go_wp2_with (at_builtin; refine wpList_append_rows (f := bF) (z := 0) (c := 1) rfl _ _ 22 rfl W6.heap.size 5 i0 z0 1 Try.underlying22 hi hz0 hz1 hz2 hz3 (by decide) _ 0 [] rfl (World.ownsRow_made W6 #[] 0 (Nat.le_refl _) (Nat.zero_le _) rfl) _ F rfl FR.out (fun q _ => rfl) (fun q _ u hu => by rw [List.mem_singleton.1 hu]; rfl) LL.out.1 LL.out.2.1 SZ.out ?_)
      intro v9 w9 hown hgrow
      have hk := ((Kp.refl Nb W6).alloc (.cells #[] 5)).grown hgrow (fun k hk h => by simp [Value.ownBlock] at hk; omega)
      have HO9 : Hid (w9.ownsRow W6.heap.size 5 1 v9 F.length (F.map (Value.int .u8))) := hid (by rw [flat_bytes] at hown; simpa only [Nat.zero_add, List.nil_append] using hown)
      have FR9 := hid ((rows_by HB6.out).kept hk)
      have K9 := hid hk
      clear hown hgrow hk FR
      obtain ⟨y9, c9, rfl⟩ := own_shape HO9.out
      go_wp2_with (at_builtin; refine wpList_append_rows (f := bF) (z := 0) (c := 1) rfl _ _ 22 rfl W6.heap.size 5 i0 z0 1 Try.underlying22 hi hz0 hz1 hz2 hz3 (by decide) _ _ _ rfl HO9.out _ more rfl FR9.out (fun q _ => rfl) (fun q _ u hu => by rw [List.mem_singleton.1 hu]; rfl) LL.out.2.2.1 LL.out.2.2.2 K9.out.size ?_)
      intro v10 w10 hown hgrow
      have hk := K9.out.grown hgrow (fun k hk h => by have := (row_cells HO9.out hk).1; omega)
      have BV : Hid (BySl Nb w10 v10 (F ++ more)) := hid (by
        rw [flat_bytes, ← List.map_append, ← List.length_append] at hown
        exact BySl.ofOwn hown (BFZ.out.append HB6.out.1) (fun _ _ _ h => h))
      have K10 := hid hk
      have LV : Hid ((F ++ more).length ≤ 3000) := hid (by rw [List.length_append, HFL.out, HLb.out]; have := HN.out; have := HNB.out; omega)
      obtain ⟨E11, hE11⟩ : ∃ e, (readF (F ++ more)).2.2 = e := ⟨_, rfl⟩
      have D11 : Hid ((E11 == 0) = ((Lb : Int) == 0)) := hid (by
        rw [← hE11, ← HLb.out]
        cases hm : more with
        | nil => rw [List.append_nil, RM.out.1]; rfl
        | cons x r =>
          have hmb := HB6.out.1
          rw [hm] at hmb
          rw [RM.out.2 _ hmb (by simp)]
          have : ((((x :: r).length : Nat) : Int) == 0) = false := by simp; omega
          rw [this]
          rfl)
      have HE11 := hid hE11
      clear hown hgrow hk HO9 FR9 K9 SZ LL hE11
      go_wp2_with fail
      refine (CRE.out _ _ _ E11 BV.out LV.out HE11.out).mono ?_
      rintro e w11 ⟨kk7, n7, y7, d7, rfl, k11⟩
      obtain ⟨M7, hM7⟩ : ∃ N, w11.heap.size = N := ⟨_, rfl⟩
      obtain ⟨W7, hW7⟩ : ∃ W, W = w11.alloc (.cells (frL kk7 (.slice y7 n7 d7)).toArray 24) := ⟨_, rfl⟩
      have k7' : Kp Nb W6 W7 := by rw [hW7]; exact (K10.out.trans k11 (fun _ _ h => h)).alloc _
      have BM7 := hid (BM6.out.kept k7' (fun h => h))
      have BB7 := hid (BB6.out.kept k7' (fun _ h => h))
      have BR7 := hid (BR6.out.kept k7' (fun _ h => h))
      have HB7 := hid (HB6.out.kept k7' (fun _ h => h))
      have HF7 := hid (HF6.out.kept k7' (fun _ h => h))
      have Q7 := hid (Q6.out.kept k7' (fun h => h))
      have K7 := hid (K6.out.trans k7' (fun _ _ h => h))
      clear k11 k7' BM6 BB6 BR6 HB6 HF6 Q6 K6 K10 BV LV HE11 hi hz0 hz1 hz2 hz3
      go_upto_region 12 with fail
      rw [show w11.alloc (.cells #[.int .i64 kk7, .slice y7 n7 d7] 24) = W7 from hW7.symm]
      clear hW7 hM7
      go_wp2_with fail
      have hs8n := hsn
      obtain ⟨T, hT⟩ : ∃ T, turnB F ((n : Int) - 1 - (s8 : Int)) x = T := ⟨_, rfl⟩
      have CTU : Hid (Calls Try.prog 18 #[.slice (some ⟨gb, 0, none⟩) n cb, .int .i64 ((n : Int) - 1 - (s8 : Int)), .int .u8 x] W7 fun e w' => ∃ v', e = .returned v' ∧ BySl Nb w' v' T ∧ Kp Nb W7 w') := hid (by rw [← hT]; exact fturn_any _ F _ x W7 BR7.out (by rw [HFL.out]; omega))
      have LT : Hid (T.length ≤ 3000) := hid (by rw [← hT, turnB_length, HFL.out]; omega)
      obtain ⟨E12, hE12⟩ : ∃ e, (readF T).2.2 = e := ⟨_, rfl⟩
      have D12 : Hid ((E12 == 0) = (x == 0)) := hid (by
        rw [← hE12, ← hT, RT.out s8 hsn]
        by_cases h0 : x = 0
        · rw [if_pos h0, h0]
        · rw [if_neg h0]
          have : (x == 0) = false := by simpa using h0
          rw [this]
          rfl)
      have HE12 := hid hE12
      clear hT hE12 hs8n
      refine CTU.out.mono ?_
      rintro e w12 ⟨v12, rfl, hb12, k12⟩
      have BT := hid hb12
      have K12 := hid k12
      clear hb12 k12 CTU
      go_wp2_with fail
      refine (CRE.out _ _ _ E12 BT.out LT.out HE12.out).mono ?_
      rintro e w13 ⟨kk8, n8, y8, d8, rfl, k13⟩
      obtain ⟨M8, hM8⟩ : ∃ N, w13.heap.size = N := ⟨_, rfl⟩
      obtain ⟨W8, hW8⟩ : ∃ W, W = w13.alloc (.cells (frL kk8 (.slice y8 n8 d8)).toArray 24) := ⟨_, rfl⟩
      have k8' : Kp Nb W7 W8 := by rw [hW8]; exact (K12.out.trans k13 (fun _ _ h => h)).alloc _
      have BM8 := hid (BM7.out.kept k8' (fun h => h))
      have BB8 := hid (BB7.out.kept k8' (fun _ h => h))
      have HF8 := hid (HF7.out.kept k8' (fun _ h => h))
      have Q8 := hid (Q7.out.kept k8' (fun h => h))
      have K8 := hid (K7.out.trans k8' (fun _ _ h => h))
      clear k13 k8' BM7 BB7 BR7 HB7 HF7 Q7 K7 K12 BT LT HE12 hsn ht2
      go_upto_region 13 with fail
      rw [show w13.alloc (.cells #[.int .i64 kk8, .slice y8 n8 d8] 24) = W8 from hW8.symm]
      clear hW8 hM8
      obtain ⟨D1, hD1⟩ : ∃ d, ((Lb : Int) == 0) = d := ⟨_, rfl⟩
      obtain ⟨D2, hD2⟩ : ∃ d, (x == 0) = d := ⟨_, rfl⟩
      have DA := hid hD1
      have DB := hid hD2
      have DC : Hid ((E11 == 0) = D1) := hid (D11.out.trans hD1)
      have DD : Hid ((E12 == 0) = D2) := hid (D12.out.trans hD2)
      clear hD1 hD2 D11 D12
      have e1 := DA.out
      have e2 := DB.out
      have e3 := DC.out
      have e4 := DD.out
      have p0 := Q8.out.cell 0
      have p1 := Q8.out.cell 1
      have p2 := BM8.out.cell 0
      have p3 := BM8.out.cell 1
      simp only [List.getElem?_cons_zero, List.getElem?_cons_succ] at p0 p1 p2 p3
      go_wp2_with fail
      refine (CSM.out _ _ _ BB8.out HF8.out).mono ?_
      rintro e w14 ⟨rfl, k14⟩
      have Q9 := hid (Q8.out.kept k14 (fun h => h))
      have K9 := hid (K8.out.trans k14 (fun _ _ h => h))
      clear k14 p0 p1 p2 p3 CSM
      have p1 := Q9.out.cell 1
      simp only [List.getElem?_cons_zero, List.getElem?_cons_succ] at p1
      go_wp2_with fail
      refine (CCO.out _).mono ?_
      rintro e w15 ⟨rfl, rfl⟩
      go_wp2
      go_ret
      exact ⟨rfl, K9.out⟩
    · have hrf : rightF k zs.length = false := by rw [HLf.out]; exact Bool.eq_false_iff.2 hr
      have CP : Hid (∀ w, BySl Nb w (.slice yf Lf df) zs → Calls Try.prog 13 #[frV k (.slice yf Lf df)] w fun e w' => e = .returned (.slice none 0 0) ∧ Kp Nb w w') := hid (fun w hv => fput_no k _ zs w hv hrf)
      have CR : Hid (∀ w, Calls Try.prog 12 #[frV k (.slice yf Lf df)] w fun e w' => e = .returned (.bool false) ∧ Kp Nb w w') := hid (fun w => by have h := fright_any k yf Lf df w; rw [Bool.eq_false_iff.2 hr] at h; exact h)
      clear hrf hr
      go_wp2_with fail
      refine (CP.out _ HF2.out).mono ?_
      rintro e w3 ⟨rfl, k3⟩
      have Q3 := hid (Q0.out.kept k3 (fun h => h))
      have K3 := hid (K2.out.trans k3 (fun _ _ h => h))
      have c0 := Q3.out.cell 0
      have c1 := Q3.out.cell 1
      simp only [List.getElem?_cons_zero, List.getElem?_cons_succ] at c0 c1
      clear k3
      go_wp2_with fail
      refine (CR.out _).mono ?_
      rintro e w4 ⟨rfl, k4⟩
      have K4 := hid (K3.out.trans k4 (fun _ _ h => h))
      clear k4 c0 c1
      go_wp2
      go_ret
      exact ⟨rfl, K4.out⟩

end Go.Proofs.Ytmgmghlflldepaa

namespace Go.Proofs.Ytmgmghlflldepaa
open Go.RowKit Go.Shelf

theorem old_setF {L : Nat → Bool} {i : Nat} {l l' : List Value} (u : Value) (hL : L i = false) (h : l' = l.set i u) : ∀ j, L j = true → l'.getD j undef = l.getD j undef := by
  intro j hj
  subst h
  have hn : i ≠ j := by rintro rfl; rw [hL] at hj; cases hj
  rw [List.getD_eq_getElem?_getD, List.getD_eq_getElem?_getD, List.getElem?_set_ne hn]
theorem exec_buildSliceF {P : Program} {ev : Operand → Value} {o : Oper} {T : TypeId} {n : Nat} {ps : Array (Nat × Operand)} {qs : Array (Nat × Value)} {v : Value} {w w' : World} (ho : o.op = .buildSlice T n ps) (hq : (ps.map fun (i, x) => (i, ev x)) = qs) (hl : (Instr.buildSlice T n qs).run P w = .ok v w') : (execOp ev o).run P w = .ok (.value v) w' := by
  unfold execOp
  simp only [ho, hq, Sem.run_bind, Sem.run_pure, Result.andThen_ok, hl]
theorem exec_append {P : Program} {ev : Operand → Value} {o : Oper} {s x : Operand} {t : TypeId} {v xv v' : Value} {w w' : World} (ho : o.op = .call { callee := .builtin .append, args := #[s, x], argTypes := #[t, t] })
    (hs : ev s = v) (hx : ev x = xv) (hr : (Builtin.append_ #[t, t] o.type #[v, xv]).run P w = .ok v' w') : (execOp ev o).run P w = .ok (.value v') w' := by
  simp [execOp, ho, resolve, invoke, builtin, hs, hx, hr, Result.andThen]
/-- An append to a row of one type leaves the blocks of the others. -/
theorem grown_ty {w w' : World} {base e size n : Nat} {v : Value} {xs : List Value} (h : w.ownsRow base e size v n xs) (g : w.grownBy w' v.ownBlock) {B t : Nat} {cs : Array Value} {fr : Nat × Nat} (hb : w.heap[B]? = some (.cells cs t fr)) (ht : t ≠ e) : w'.heap[B]? = some (.cells cs t fr) := by
  refine (g.block B (Array.getElem?_eq_some_iff.1 hb).1 (fun e' => ?_)).trans hb
  obtain ⟨cs', fr', e2⟩ := row_ty h e'.symm
  rw [hb] at e2
  injection e2 with e2
  injection e2 with _ e2
  exact ht e2
theorem grown_row {w w' : World} {base e size n : Nat} {v : Value} {xs : List Value} (h : w.ownsRow base e size v n xs) (g : w.grownBy w' v.ownBlock) {base2 e2 size2 n2 : Nat} {v2 : Value} {xs2 : List Value} (h2 : w.ownsRow base2 e2 size2 v2 n2 xs2) (ht : e2 ≠ e) : w'.ownsRow base2 e2 size2 v2 n2 xs2 :=
  ownsRow_same h2 (fun b hb => by
    obtain ⟨cs', fr', e'⟩ := row_ty h2 hb
    rw [grown_ty h g e' ht, e'])
theorem grown_blk {w w' : World} {base e size n : Nat} {v : Value} {xs : List Value} (h : w.ownsRow base e size v n xs) (g : w.grownBy w' v.ownBlock) {B t : Nat} {vs : List Value} (hb : Blk w B t vs) (ht : t ≠ e) : Blk w' B t vs := grown_ty h g hb ht
theorem kp_grown {w0 w w' : World} {base e size n : Nat} {v : Value} {xs : List Value} (h : w.ownsRow base e size v n xs) (g : w.grownBy w' v.ownBlock) (hb : base = w0.heap.size) (k : Kp Nb w0 w) : Kp Nb w0 w' :=
  k.grown g (fun b hb' hlt => by have := (row_cells h hb').1; omega)

/-- A frame of a list: its kind, its body as a value, the body's bytes. -/
abbrev FrT := Int × Value × List Int
abbrev ftL (q : FrT) : List Value := frL q.1 q.2.1
abbrev ftK (q : FrT) : FrK := (q.1, q.2.2)
abbrev ftZ : FrT := (0, .slice none 0 0, [])
theorem int_one (z : Int) : ∀ u ∈ ([Value.int .i64 z] : List Value), u.oneCell' = true := fun u hu => by rw [List.mem_singleton.1 hu]; rfl
/-- What stands while the two rows are appended to. -/
structure JnS (w0 : World) (va vb v3 : Value) (zs3 : List Int) (is : List Int) (fs : List FrT) (z : Int) (q : FrT) (P7 : Nat) (bs : List Bool) (g : Value × Value × Value × Value) (w : World) : Prop where
  kp : Kp Nb w0 w
  r3 : w.ownsRow w0.heap.size 5 1 v3 zs3.length (zs3.map (Value.int .u8))
  b7 : Blk w P7 24 (ftL q)
  a0 : bs[1]?.getD false = false → w.ownsRow w0.heap.size 3 1 va is.length (is.map (Value.int .i64))
  a1 : bs[1]?.getD false = true → w.ownsRow w0.heap.size 3 1 g.2.1 (is ++ [z]).length ((is ++ [z]).map (Value.int .i64))
  b0 : bs[3]?.getD false = false → w.ownsRow w0.heap.size 24 2 vb fs.length (fs.flatMap ftL)
  b1 : bs[3]?.getD false = true → w.ownsRow w0.heap.size 24 2 g.2.2.2 (fs ++ [q]).length ((fs ++ [q]).flatMap ftL)
  ma : bs[0]?.getD false = true → bs[1]?.getD false = false → ∃ B, g.1 = .slice (some ⟨B, 0, none⟩) 1 1 ∧ Blk w B 3 [.int .i64 z]
  mb : bs[2]?.getD false = true → bs[3]?.getD false = false → ∃ B, g.2.2.1 = .slice (some ⟨B, 0, none⟩) 1 1 ∧ Blk w B 24 (ftL q)
section
variable {w0 w w' : World} {va vb v3 : Value} {zs3 : List Int} {is : List Int} {fs : List FrT} {z : Int} {q : FrT} {P7 : Nat} {bs : List Bool} {g : Value × Value × Value × Value}
theorem JnS.keptN (h : JnS w0 va vb v3 zs3 is fs z q P7 bs g w) (k : Kp Nb w w') : JnS w0 va vb v3 zs3 is fs z q P7 bs g w' :=
  ⟨h.kp.trans k (fun _ _ h => h), ownsRow_kpn h.r3 k, h.b7.kept k (fun h => h), fun e => ownsRow_kpn (h.a0 e) k, fun e => ownsRow_kpn (h.a1 e) k, fun e => ownsRow_kpn (h.b0 e) k, fun e => ownsRow_kpn (h.b1 e) k,
    fun e e' => by obtain ⟨B, h1, h2⟩ := h.ma e e'; exact ⟨B, h1, h2.kept k (fun h => h)⟩, fun e e' => by obtain ⟨B, h1, h2⟩ := h.mb e e'; exact ⟨B, h1, h2.kept k (fun h => h)⟩⟩
theorem JnS.start (k : Kp Nb w0 w) (r3 : w.ownsRow w0.heap.size 5 1 v3 zs3.length (zs3.map (Value.int .u8))) (b7 : Blk w P7 24 (ftL q)) (a0 : w.ownsRow w0.heap.size 3 1 va is.length (is.map (Value.int .i64)))
    (b0 : w.ownsRow w0.heap.size 24 2 vb fs.length (fs.flatMap ftL)) : JnS w0 va vb v3 zs3 is fs z q P7 [false, false, false, false] g w.drew := by
  have kd : Kp Nb w w.drew := (Kp.refl Nb w).drew
  refine ⟨k.trans kd (fun _ _ h => h), ownsRow_kpn r3 kd, b7.kept kd (fun h => h), fun _ => ownsRow_kpn a0 kd, ?_, fun _ => ownsRow_kpn b0 kd, ?_, ?_, ?_⟩ <;> intro h <;> simp at h
theorem mark4 (L : Nat → Bool) (a b c d i : Nat) : bitsAt [a, b, c, d] (upd L i) = [L a || a == i, L b || b == i, L c || c == i, L d || d == i] := rfl
theorem bits4 (L : Nat → Bool) (a b c d : Nat) : bitsAt [a, b, c, d] L = [L a, L b, L c, L d] := rfl
theorem JnS.made1 {b1 b2 b3 : Bool} (h : JnS w0 va vb v3 zs3 is fs z q P7 [false, b1, b2, b3] g w) : JnS w0 va vb v3 zs3 is fs z q P7 [true, b1, b2, b3] (.slice (some ⟨w.heap.size, 0, none⟩) 1 1, g.2) (w.alloc (.cells #[.int .i64 z] 3 (0, 0))) := by
  have k := h.keptN ((Kp.refl Nb w).alloc (.cells #[.int .i64 z] 3 (0, 0)))
  exact ⟨k.kp, k.r3, k.b7, k.a0, k.a1, k.b0, k.b1, fun _ _ => ⟨_, rfl, Blk.new w _ [.int .i64 z]⟩, k.mb⟩
theorem JnS.made2 {b0 b1 b3 : Bool} (h : JnS w0 va vb v3 zs3 is fs z q P7 [b0, b1, false, b3] g w) : JnS w0 va vb v3 zs3 is fs z q P7 [b0, b1, true, b3] (g.1, g.2.1, .slice (some ⟨w.heap.size, 0, none⟩) 1 1, g.2.2.2) (w.alloc (.cells (ftL q).toArray 24 (0, 0))) := by
  have k := h.keptN ((Kp.refl Nb w).alloc (.cells (ftL q).toArray 24 (0, 0)))
  exact ⟨k.kp, k.r3, k.b7, k.a0, k.a1, k.b0, k.b1, k.ma, fun _ _ => ⟨_, rfl, Blk.new w _ (ftL q)⟩⟩
theorem JnS.put1 {b0 b2 b3 : Bool} (h : JnS w0 va vb v3 zs3 is fs z q P7 [b0, false, b2, b3] g w) {v' : Value} (ho : w'.ownsRow w0.heap.size 3 1 v' (is.length + 1) (is.map (Value.int .i64) ++ [.int .i64 z])) (hg : w.grownBy w' va.ownBlock) :
    JnS w0 va vb v3 zs3 is fs z q P7 [b0, true, b2, b3] (g.1, v', g.2.2) w' := by
  have r := h.a0 rfl
  refine ⟨kp_grown r hg rfl h.kp, grown_row r hg h.r3 (by decide), grown_blk r hg h.b7 (by decide), (fun e => by cases e), fun _ => ?_, fun e => grown_row r hg (h.b0 e) (by decide), fun e => grown_row r hg (h.b1 e) (by decide), (fun _ e => by cases e), fun e e' => ?_⟩
  · rw [List.length_append, List.map_append]; exact ho
  · obtain ⟨B, h1, h2⟩ := h.mb e e'
    exact ⟨B, h1, grown_blk r hg h2 (by decide)⟩
theorem JnS.put2 {b0 b1 b2 : Bool} (h : JnS w0 va vb v3 zs3 is fs z q P7 [b0, b1, b2, false] g w) (hb7 : w'.heap[P7]? = w.heap[P7]?) {v' : Value} (ho : w'.ownsRow w0.heap.size 24 2 v' (fs.length + 1) (fs.flatMap ftL ++ ftL q)) (hg : w.grownBy w' vb.ownBlock) :
    JnS w0 va vb v3 zs3 is fs z q P7 [b0, b1, b2, true] (g.1, g.2.1, g.2.2.1, v') w' := by
  have r := h.b0 rfl
  refine ⟨kp_grown r hg rfl h.kp, grown_row r hg h.r3 (by decide), hb7.trans h.b7, fun e => grown_row r hg (h.a0 e) (by decide), fun e => grown_row r hg (h.a1 e) (by decide), (fun e => by cases e), fun _ => ?_, fun e e' => ?_, (fun _ e => by cases e)⟩
  · rw [List.length_append, List.flatMap_append, List.flatMap_singleton]; exact ho
  · obtain ⟨B, h1, h2⟩ := h.ma e e'
    exact ⟨B, h1, grown_blk r hg h2 (by decide)⟩
end

theorem old_set2F {L : Nat → Bool} {i i2 : Nat} {l l' : List Value} (u u2 : Value) (hL : L i = false) (hL2 : L i2 = false) (h : l' = (l.set i u).set i2 u2) : ∀ j, L j = true → l'.getD j undef = l.getD j undef := by
  intro j hj
  subst h
  have hn : i ≠ j := by rintro rfl; rw [hL] at hj; cases hj
  have hn2 : i2 ≠ j := by rintro rfl; rw [hL2] at hj; cases hj
  rw [List.getD_eq_getElem?_getD, List.getD_eq_getElem?_getD, List.getElem?_set_ne hn2, List.getElem?_set_ne hn]
theorem app_int {w : World} {base ty B : Nat} {va : Value} {is : List Int} {z : Int} (own : w.ownsRow base 3 1 va is.length (is.map (Value.int .i64))) (hB : Blk w B 3 [.int .i64 z]) (hn : is.length ≤ 100000) (hb : base ≤ w.heap.size) :
    ∃ v' w', (Builtin.append_ #[40, 40] ty #[va, .slice (some ⟨B, 0, none⟩) 1 1]).run Try.prog w = .ok v' w' ∧ w'.ownsRow base 3 1 v' (is.length + 1) (is.map (Value.int .i64) ++ [.int .i64 z]) ∧ w.grownBy w' va.ownBlock := by
  obtain ⟨i0, hi, h1, h2, h3⟩ := info_parts fi_info
  have hx : RowsSl (fun z => [Value.int .i64 z]) 0 1 w (.slice (some ⟨B, 0, none⟩) 1 1) [z] := by
    refine .inr ⟨B, 0, 1, rfl, Nat.le_refl _, by unfold maxLen; omega, fun i hi => ?_⟩
    have e : i = 0 := by simp at hi; omega
    subst e
    exact hB.range 0 _ (fun j _ => by rw [Nat.zero_add]; rfl)
  exact run_append_rows (f := fun z => [Value.int .i64 z]) (z := 0) (c := 1) base 40 ty 3 i0 (.int .i64 0) 8 Try.underlying40 hi h1 h2 h3 rfl (by decide) va is.length _ own _ [z] hx (fun _ _ => rfl) (fun _ _ u hu => int_one _ u hu) (by rw [List.length_singleton]; unfold maxLen; omega) (by rw [List.length_singleton]; omega) hb
theorem app_fr {w : World} {base ty B : Nat} {vb : Value} {fs : List FrT} {k : Int} {y : Option Addr} {n d : Nat} {zs : List Int} (own : w.ownsRow base 24 2 vb fs.length (fs.flatMap ftL)) (hB : Blk w B 24 (ftL (k, .slice y n d, zs))) (hn : fs.length ≤ 100000) (hb : base ≤ w.heap.size) :
    ∃ v' w', (Builtin.append_ #[41, 41] ty #[vb, .slice (some ⟨B, 0, none⟩) 1 1]).run Try.prog w = .ok v' w' ∧ w'.ownsRow base 24 2 v' (fs.length + 1) (fs.flatMap ftL ++ ftL (k, .slice y n d, zs)) ∧ w.grownBy w' vb.ownBlock := by
  obtain ⟨i0, hi, h1, h2, h3⟩ := info_parts ff_info
  have hx : RowsSl ftL ftZ 2 w (.slice (some ⟨B, 0, none⟩) 1 1) [(k, .slice y n d, zs)] := by
    refine .inr ⟨B, 0, 1, rfl, Nat.le_refl _, by unfold maxLen; omega, fun i hi => ?_⟩
    have e : i = 0 := by simp at hi; omega
    subst e
    exact hB.range 0 _ (fun j _ => by rw [Nat.zero_add]; rfl)
  have h := run_append_rows (f := ftL) (z := ftZ) (c := 2) base 41 ty 24 i0 (frV 0 (.slice none 0 0)) 32 Try.underlying41 hi h1 h2 h3 rfl (by decide) vb fs.length _ own _ [(k, .slice y n d, zs)] hx (fun _ _ => rfl) (fun q hq u hu => by rw [List.mem_singleton.1 hq] at hu; exact frL_one _ _ rfl u hu) (by rw [List.length_singleton]; unfold maxLen; omega) (by rw [List.length_singleton]; omega) hb
  exact h

/-- The places of frames one behind the other. -/
def plF (fs : List FrK) : List Int := (List.range fs.length).map fun i => ((joinF (fs.take i)).length : Int)
theorem plF_length (fs : List FrK) : (plF fs).length = fs.length := by simp [plF]
theorem plF_at (fs : List FrK) (j : Nat) (h : j < fs.length) : (plF fs)[j]? = some ((joinF (fs.take j)).length : Int) := by
  unfold plF
  rw [List.getElem?_map, List.getElem?_range h]
  rfl
theorem plF_snoc (fs : List FrK) (f : FrK) : plF (fs ++ [f]) = plF fs ++ [((joinF fs).length : Int)] := by
  unfold plF
  rw [List.length_append, List.length_singleton, List.range_succ, List.map_append, List.map_singleton]
  congr 1
  · apply List.map_congr_left
    intro i hi
    rw [List.take_append_of_le_length (by have := List.mem_range.1 hi; omega)]
  · rw [List.take_left]
/-- The right ones of a list. -/
def pickF (l : List FrT) : List FrT := l.filter fun q => rightF q.1 q.2.2.length
theorem pickF_yes (l : List FrT) (j : Nat) (h : j < l.length) (hr : rightF l[j].1 l[j].2.2.length = true) : pickF (l.take (j + 1)) = pickF (l.take j) ++ [l[j]] := by
  unfold pickF
  rw [List.take_succ_eq_append_getElem h, List.filter_append, List.filter_cons_of_pos (by exact hr), List.filter_nil]
theorem pickF_no (l : List FrT) (j : Nat) (h : j < l.length) (hr : rightF l[j].1 l[j].2.2.length = false) : pickF (l.take (j + 1)) = pickF (l.take j) := by
  unfold pickF
  rw [List.take_succ_eq_append_getElem h, List.filter_append, List.filter_cons_of_neg (by rw [hr]; decide), List.filter_nil, List.append_nil]
theorem pickF_rt {l : List FrT} (h : ∀ q ∈ l, IsBytes q.2.2) : ∀ g ∈ (pickF l).map ftK, RtF g := fun g hg => by
  obtain ⟨q, hq, rfl⟩ := List.mem_map.1 hg
  have := List.mem_filter.1 hq
  exact ⟨this.2, h q this.1⟩
theorem join_long : ∀ fs : List FrK, (∀ g ∈ fs, RtF g) → 10 * fs.length ≤ (joinF fs).length
  | [], _ => by simp
  | f :: r, h => by
    have ih := join_long r (fun g hg => h g (by simp [hg]))
    have hf := h f (by simp)
    have hl := frame_length f.1 f.2 hf.1
    have rp := right_parts hf.1
    unfold costF at hl
    rw [if_pos (by omega)] at hl
    rw [joinF_cons, List.length_append, List.length_cons]
    omega

end Go.Proofs.Ytmgmghlflldepaa

namespace Go.Proofs.Ytmgmghlflldepaa
open Go.RowKit Go.Shelf
attribute [local go_sem] Oper.semAt_some

structure JoS (w0 : World) (ps : List FrT) (v3 v4 v5 : Value) (wr : World) : Prop where
  kp : Kp Nb w0 wr
  r3 : wr.ownsRow w0.heap.size 5 1 v3 (joinF (ps.map ftK)).length ((joinF (ps.map ftK)).map (Value.int .u8))
  r4 : wr.ownsRow w0.heap.size 3 1 v4 (plF (ps.map ftK)).length ((plF (ps.map ftK)).map (Value.int .i64))
  r5 : wr.ownsRow w0.heap.size 24 2 v5 ps.length (ps.flatMap ftL)
  len : (joinF (ps.map ftK)).length ≤ 8061
theorem JoS.kept {w0 w w' : World} {ps : List FrT} {v3 v4 v5 : Value} (h : JoS w0 ps v3 v4 v5 w) (k : Kp Nb w w') : JoS w0 ps v3 v4 v5 w' := ⟨h.kp.trans k (fun _ _ h => h), ownsRow_kpn h.r3 k, ownsRow_kpn h.r4 k, ownsRow_kpn h.r5 k, h.len⟩
theorem JoS.start {w0 w : World} (k : Kp Nb w0 w) : JoS w0 [] (.slice none 0 0) (.slice none 0 0) (.slice none 0 0) w :=
  ⟨k, ⟨rfl, .inl ⟨rfl, rfl⟩⟩, ⟨rfl, .inl ⟨rfl, rfl⟩⟩, ⟨rfl, .inl ⟨rfl, rfl⟩⟩, by decide⟩
def JoR (w0 : World) (l : List FrT) (i v3 v4 v5 : Value) (wr : World) : Prop := ∃ j : Nat, j ≤ l.length ∧ i = .int .i64 j ∧ Hid (JoS w0 (pickF (l.take j)) v3 v4 v5 wr)
def JtR (w0 : World) (n : Nat) (i : Value) (wr : World) : Prop := ∃ j : Nat, j ≤ n ∧ i = .int .i64 j ∧ Hid (Kp Nb w0 wr)

theorem flat_ints : ∀ zs : List Int, flatR (fun z => [Value.int .i64 z]) zs = zs.map (Value.int .i64)
  | [] => rfl
  | z :: r => by
    have h := flat_ints r
    unfold flatR at h ⊢
    rw [List.flatMap_cons, h]
    rfl

set_option maxRecDepth 100000 in
set_option maxHeartbeats 16000000 in
theorem fjoined_any (v : Value) (l : List FrT) (w : World) (hl : RowsSl ftL ftZ 2 w v l) (hb : ∀ q ∈ l, BySl Nb w q.2.1 q.2.2) :
    Calls Try.prog 6 #[v] w fun e w' => e = .returned (.bool true) ∧ Kp Nb w w' := by
  obtain ⟨y, d, rfl⟩ := hl.shape
  obtain ⟨n, hn⟩ : ∃ n, l.length = n := ⟨_, rfl⟩
  rw [hn]
  have HN := hid hn
  have HLR := hid hl
  have HBY := hid hb
  rw [hn] at HLR
  have HIB : Hid (∀ q ∈ l, IsBytes q.2.2) := hid (fun q hq => (hb q hq).1)
  clear hl hb hn
  go_enter Try.func6, Try.ntmps6
  go_wp2_with fail
  refine (ffirst_any _).mono ?_
  rintro e w1 ⟨rfl, k1⟩
  have S0 := hid (JoS.start k1)
  clear k1
  go_wp2
  go_loopw [15, 3, 4, 5] (JoR w l) (fun i _ _ _ _ => n - (intOf i).toNat)
  case atStart => exact ⟨0, Nat.zero_le _, rfl, S0⟩
  case round =>
    clear S0
    obtain ⟨j, hj, rfl, HS⟩ := hrel
    rw [HN.out] at hj
    obtain ⟨y3, d3, rfl⟩ := own_shape HS.out.r3
    obtain ⟨y4, d4, rfl⟩ := own_shape HS.out.r4
    obtain ⟨y5, d5, rfl⟩ := own_shape HS.out.r5
    by_cases hlt : j < n
    · have hX := HLR.out.kept HS.out.kp
      obtain ⟨blk, off, cap, e1, hc, hm, hcell⟩ := rows_pos hX HN.out (by omega)
      injection e1 with e1 e2 e3
      subst e1 e3
      clear e2
      obtain ⟨⟨k, vf, zs⟩, hq⟩ : ∃ q, l[j]? = some q := ⟨_, List.getElem?_eq_getElem (by have := HN.out; omega)⟩
      have hcj := hcell j hlt
      rw [hq] at hcj
      have HQ := hid hq
      have hbq := HBY.out _ (List.mem_of_getElem? hq)
      dsimp only at hbq
      obtain ⟨yf, df, rfl⟩ := hbq.shp
      obtain ⟨L, hL⟩ : ∃ L, zs.length = L := ⟨_, rfl⟩
      rw [hL] at hbq hcj HQ
      have HL := hid hL
      have HBQ := hid hbq
      have c0 : wr.cell? ⟨blk, off + j * 2, none⟩ = some (.int .i64 k) := hcj 0 _ rfl
      have c1 : wr.cell? ⟨blk, off + j * 2 + 1, none⟩ = some (.slice yf L df) := hcj 1 _ rfl
      obtain ⟨n3, hn3⟩ : ∃ n3, (joinF ((pickF (l.take j)).map ftK)).length = n3 := ⟨_, rfl⟩
      rw [hn3]
      have HN3 := hid hn3
      have h3b : n3 ≤ 8061 := by rw [← hn3]; exact HS.out.len
      have hpl : (plF ((pickF (l.take j)).map ftK)).length = (pickF (l.take j)).length := by rw [plF_length, List.length_map]
      obtain ⟨np, hnp⟩ : ∃ m, (pickF (l.take j)).length = m := ⟨_, rfl⟩
      rw [hpl, hnp]
      have HNP := hid hnp
      have HPL := hid hpl
      unfold maxLen at hm
      obtain ⟨W7, hW7⟩ : ∃ W, W = wr.alloc (.cells (frL k (.slice yf L df)).toArray 24) := ⟨_, rfl⟩
      obtain ⟨M7, hM7⟩ : ∃ N, wr.heap.size = N := ⟨_, rfl⟩
      have B7 : Hid (Blk W7 M7 24 (frL k (.slice yf L df))) := hid (by rw [hW7, ← hM7]; exact Blk.new wr _ _)
      have k7 : Kp Nb wr W7 := by rw [hW7]; exact (Kp.refl Nb wr).alloc _
      have HS7 := hid (HS.out.kept k7)
      have NE7 : Hid ((Value.slice y5 np d5).ownBlock ≠ some M7) := hid (fun hb => by
        have h5 := HS.out.r5
        rw [hnp] at h5
        have := (h5.lt _ hb).2
        omega)
      clear hbq hcj hcell hX hq hL hn3 hnp hpl k7
      go_upto_region 9 with fail
      rw [show wr.alloc (.cells #[.int .i64 k, .slice yf L df] 24) = W7 from hW7.symm]
      clear hW7 hM7 c0 c1
      have p0 := B7.out.cell 0
      have p1 := B7.out.cell 1
      simp only [List.getElem?_cons_zero, List.getElem?_cons_succ] at p0 p1
      by_cases hl1 : 2100 < L
      · have d1 : decide ((L : Int) > 2100) = true := decide_eq_true (by omega)
        go_wp2
        go_ret
        exact ⟨rfl, HS7.out.kp⟩
      have d1 : decide ((L : Int) > 2100) = false := decide_eq_false (by omega)
      by_cases hl2 : 6000 < n3
      · have d2 : decide ((n3 : Int) > 6000) = true := decide_eq_true (by omega)
        go_wp2
        go_ret
        exact ⟨rfl, HS7.out.kp⟩
      have d2 : decide ((n3 : Int) > 6000) = false := decide_eq_false (by omega)
      obtain ⟨b, hbr⟩ : ∃ b, rightF k L = b := ⟨_, rfl⟩
      have CR : Hid (∀ w, Calls Try.prog 12 #[frV k (.slice yf L df)] w fun e w' => e = .returned (.bool b) ∧ Kp Nb w w') := hid (fun w => by rw [← hbr]; exact fright_any k yf L df w)
      have HBR := hid hbr
      have HL1 := hid hl1
      have HL2 := hid hl2
      clear hbr hl1 hl2
      go_wp2_with fail
      refine (CR.out _).mono ?_
      rintro e w8 ⟨rfl, k8⟩
      have HS8 := hid (HS7.out.kept k8)
      have B8 := hid (B7.out.kept k8 (fun h => h))
      clear k8 HS7 B7 CR p0 p1 d1 d2
      cases b
      · have HP : Hid (pickF (l.take (j + 1)) = pickF (l.take j)) := hid (by
          have hjl : j < l.length := by have := HN.out; omega
          have hq : l[j] = (k, .slice yf L df, zs) := Option.some.inj ((List.getElem?_eq_getElem hjl).symm.trans HQ.out)
          refine pickF_no l j hjl ?_
          rw [hq]
          dsimp only
          rw [HL.out]
          exact HBR.out)
        have RE : Hid (JoR w l (.int .i64 ((j : Int) + 1)) (.slice y3 n3 d3) (.slice y4 np d4) (.slice y5 np d5) w8) := hid (by
          refine ⟨j + 1, by have := HN.out; omega, by go_num, hid ?_⟩
          rw [HP.out]
          have h := HS8.out
          rw [HN3.out, HPL.out, HNP.out] at h
          exact h)
        go_wp2
        go_roundw
        case rel => exact RE.out
        case measure => simp [intOf]; omega
      · obtain ⟨ps, hps⟩ : ∃ ps, pickF (l.take j) = ps := ⟨_, rfl⟩
        have HP : Hid (pickF (l.take (j + 1)) = ps ++ [(k, .slice yf L df, zs)]) := hid (by
          have hjl : j < l.length := by have := HN.out; omega
          have hq : l[j] = (k, .slice yf L df, zs) := Option.some.inj ((List.getElem?_eq_getElem hjl).symm.trans HQ.out)
          rw [← hps, pickF_yes l j hjl (by rw [hq]; dsimp only; rw [HL.out]; exact HBR.out), hq])
        have HS9 : Hid (JoS w ps (.slice y3 n3 d3) (.slice y4 np d4) (.slice y5 np d5) w8) := hid (by
          have h := HS8.out
          rw [HN3.out, HPL.out, HNP.out, hps] at h
          exact h)
        have HZ3 : Hid ((joinF (ps.map ftK)).length = n3) := hid (by rw [← hps]; exact HN3.out)
        have HNQ : Hid (ps.length = np) := hid (by rw [← hps]; exact HNP.out)
        have RTP : Hid (∀ g ∈ ps.map ftK, RtF g) := hid (by rw [← hps]; exact pickF_rt (fun q hq => HIB.out q (List.mem_of_mem_take hq)))
        have HNB : Hid (np ≤ 900) := hid (by
          have h := join_long _ RTP.out
          rw [List.length_map, HNQ.out, HZ3.out] at h
          omega)
        have HIL : Hid ((plF (ps.map ftK)).length = np) := hid (by rw [plF_length, List.length_map]; exact HNQ.out)
        have J0 := hid (JnS.start (z := (n3 : Int)) (q := (k, .slice yf L df, zs)) (P7 := M7) (g := (undef, undef, undef, undef)) HS9.out.kp HS9.out.r3 B8.out HS9.out.r4 HS9.out.r5)
        have HZL := hid HS9.out.len
        clear hps HS9 HS8 HS HN3 HNP HPL
        obtain ⟨Z3, hZ3⟩ : ∃ Z, joinF (ps.map ftK) = Z := ⟨_, rfl⟩
        obtain ⟨IS, hIS⟩ : ∃ Z, plF (ps.map ftK) = Z := ⟨_, rfl⟩
        have EZ := hid hZ3
        have EI := hid hIS
        rw [hZ3] at J0 HZ3
        rw [hIS] at J0 HIL
        clear hZ3 hIS
        go_upto_region 12 with fail
        refine region_ghost (g0 := ((undef, undef, undef, undef) : Value × Value × Value × Value)) [none, none, none, none, some 9, some 10, none, none, none, none, none, none, none, none, none, none, none, none, none, none, none, none, none, none, none, none, none, none, none, none, some 0, some 1, some 2, some 3, some 4, some 5, some 6, some 7, some 8, none, none, none, none, none, none, none, none, none, none, none, none, none, none, none, none, none, none, none, none, none, none, none, none, none, none, none, none, none, none, none, none, none, none, none, none, none, none, none, none, none, none, none, none, none, none, none, none, none] [[(4, none)], [(3, none)], [(31, some 1)], [(32, some 2)], [(30, some 0), (33, some 3)], [(5, none)], [(7, none)], [(36, some 6)], [(35, some 5), (37, some 7)], [(34, some 4)], [(38, some 8)]] [some 30, some 31, some 32, some 33, some 34, some 35, some 36, some 37, some 38, some 4, some 5] (fun g => [.slice y4 np d4, .slice y3 n3 d3, .int .i64 (n3 : Int), g.1, g.2.1, .slice y5 np d5, frV k (.slice yf L df), g.2.2.1, g.2.2.2, g.2.1, g.2.2.2]) [3, 4, 7, 8] (fun bs g wq => Hid (JnS w (.slice y4 np d4) (.slice y5 np d5) (.slice y3 n3 d3) Z3 IS ps (n3 : Int) (k, .slice yf L df, zs) M7 bs g wq)) (by kernel_rfl) (by kernel_rfl) (fun g => by kernel_rfl) (by kernel_rfl) ?hS (GFrom.all (n := 11) (by kernel_rfl) ?hstep) ?hend
        case hstep =>
          refine GFrom.cons (GStep.val _ rfl rfl _ rfl (fun g => .slice y4 np d4) (fun _ => rfl) (fun _ => trivial) (fun bs g ev wq hS he hr => ?_)) ?_
          · have r0 : ev (.tmp 4) = .slice y4 np d4 := hr (4, none) (by simp); have hk := he.1; clear hr he
            go_simp
          refine GFrom.cons (GStep.val _ rfl rfl _ rfl (fun g => .slice y3 n3 d3) (fun _ => rfl) (fun _ => trivial) (fun bs g ev wq hS he hr => ?_)) ?_
          · have r0 : ev (.tmp 3) = .slice y3 n3 d3 := hr (3, none) (by simp); have hk := he.1; clear hr he
            go_simp
          refine GFrom.cons (GStep.val _ rfl rfl _ rfl (fun g => .int .i64 (n3 : Int)) (fun _ => rfl) (fun _ => trivial) (fun bs g ev wq hS he hr => ?_)) ?_
          · have r0 : ev (.tmp 31) = .slice y3 n3 d3 := hr (31, some 1) (by simp); have hk := he.1; clear hr he
            go_simp
          refine GFrom.cons (GStep.make _ rfl _ rfl (fun _ => trivial) (fun Lx g ev wq hL hd hcl hS he hr => ?_)) ?_
          · have r0 : ev (.tmp 32) = .int .i64 (n3 : Int) := hr (32, some 2) (by simp); clear hr he
            have e : bitsAt [3, 4, 7, 8] Lx = [false, Lx 4, Lx 7, Lx 8] := by simp [bitsAt, hL]
            have e2 : bitsAt [3, 4, 7, 8] (upd Lx 3) = [true, Lx 4, Lx 7, Lx 8] := by simp [bitsAt, upd]
            rw [e] at hS
            exact ⟨.slice (some ⟨wq.heap.size, 0, none⟩) 1 1, (Value.slice (some ⟨wq.heap.size, 0, none⟩) 1 1, g.2), _, exec_buildSliceF (qs := #[(0, .int .i64 (n3 : Int))]) rfl (by simp [r0]) (fi_make wq (n3 : Int)), rfl, old_setF _ hL rfl, by rw [e2]; exact hid hS.out.made1⟩
          refine GFrom.cons (GStep.make _ rfl _ rfl (fun _ => trivial) (fun Lx g ev wq hL hd hcl hS he hr => ?_)) ?_
          · have r0 : ev (.tmp 30) = .slice y4 np d4 := hr (30, some 0) (by simp); have r1 : ev (.tmp 33) = g.1 := hr (33, some 3) (by simp); clear hr he
            have l3 : Lx 3 = true := hd 3 (by kernel_rfl)
            have l9 : Lx 9 = false := by cases h : Lx 9 with | false => rfl | true => (have := hcl 9 _ rfl h 4 (by kernel_rfl); rw [hL] at this; cases this)
            have e : bitsAt [3, 4, 7, 8] Lx = [true, false, Lx 7, Lx 8] := by simp [bitsAt, hL, l3]
            have e2 : bitsAt [3, 4, 7, 8] (upd Lx 4) = [true, true, Lx 7, Lx 8] := by simp [bitsAt, upd, l3]
            rw [e] at hS
            obtain ⟨B, hB, hB2⟩ := hS.out.ma rfl rfl
            obtain ⟨v', w', hrun, ho, hg⟩ := app_int (ty := 40) (hS.out.a0 rfl) hB2 (by rw [HIL.out]; have := HNB.out; omega) hS.out.kp.size
            exact ⟨v', (g.1, v', g.2.2), w', exec_append rfl r0 (r1.trans hB) hrun, rfl, old_set2F v' v' hL l9 rfl, by rw [e2]; exact hid (hS.out.put1 ho hg)⟩
          refine GFrom.cons (GStep.val _ rfl rfl _ rfl (fun g => .slice y5 np d5) (fun _ => rfl) (fun _ => trivial) (fun bs g ev wq hS he hr => ?_)) ?_
          · have r0 : ev (.tmp 5) = .slice y5 np d5 := hr (5, none) (by simp); have hk := he.1; clear hr he
            go_simp
          refine GFrom.cons (GStep.val _ rfl rfl _ rfl (fun g => frV k (.slice yf L df)) (fun _ => rfl) (fun _ => trivial) (fun bs g ev wq hS he hr => ?_)) ?_
          · have r0 : ev (.tmp 7) = .pointer (some ⟨M7, 0, none⟩) := hr (7, none) (by simp); have hk := he.1; clear hr he
            exact exec_load rfl r0 (fr_load hS.out.b7)
          refine GFrom.cons (GStep.make _ rfl _ rfl (fun _ => trivial) (fun Lx g ev wq hL hd hcl hS he hr => ?_)) ?_
          · have r0 : ev (.tmp 36) = frV k (.slice yf L df) := hr (36, some 6) (by simp); clear hr he
            have e : bitsAt [3, 4, 7, 8] Lx = [Lx 3, Lx 4, false, Lx 8] := by simp [bitsAt, hL]
            have e2 : bitsAt [3, 4, 7, 8] (upd Lx 7) = [Lx 3, Lx 4, true, Lx 8] := by simp [bitsAt, upd]
            rw [e] at hS
            exact ⟨.slice (some ⟨wq.heap.size, 0, none⟩) 1 1, (g.1, g.2.1, Value.slice (some ⟨wq.heap.size, 0, none⟩) 1 1, g.2.2.2), _, exec_buildSliceF (qs := #[(0, frV k (.slice yf L df))]) rfl (by simp [r0]) (ff_make wq k yf L df), rfl, old_setF _ hL rfl, by rw [e2]; exact hid hS.out.made2⟩
          refine GFrom.cons (GStep.make _ rfl _ rfl (fun _ => trivial) (fun Lx g ev wq hL hd hcl hS he hr => ?_)) ?_
          · have r0 : ev (.tmp 35) = .slice y5 np d5 := hr (35, some 5) (by simp); have r1 : ev (.tmp 37) = g.2.2.1 := hr (37, some 7) (by simp); clear hr he
            have l7 : Lx 7 = true := hd 7 (by kernel_rfl)
            have l10 : Lx 10 = false := by cases h : Lx 10 with | false => rfl | true => (have := hcl 10 _ rfl h 8 (by kernel_rfl); rw [hL] at this; cases this)
            have e : bitsAt [3, 4, 7, 8] Lx = [Lx 3, Lx 4, true, false] := by simp [bitsAt, hL, l7]
            have e2 : bitsAt [3, 4, 7, 8] (upd Lx 8) = [Lx 3, Lx 4, true, true] := by simp [bitsAt, upd, l7]
            rw [e] at hS
            obtain ⟨B, hB, hB2⟩ := hS.out.mb rfl rfl
            obtain ⟨v', w', hrun, ho, hg⟩ := app_fr (ty := 41) (hS.out.b0 rfl) hB2 (by rw [HNQ.out]; have := HNB.out; omega) hS.out.kp.size
            exact ⟨v', (g.1, g.2.1, g.2.2.1, v'), w', exec_append rfl r0 (r1.trans hB) hrun, rfl, old_set2F v' v' hL l10 rfl, by rw [e2]; exact hid (hS.out.put2 (hg.block M7 hS.out.b7.lt (fun e => NE7.out e.symm)) ho hg)⟩
          refine GFrom.cons (GStep.val _ rfl rfl _ rfl (fun g => g.2.1) (fun _ => rfl) (fun _ => trivial) (fun bs g ev wq hS he hr => ?_)) ?_
          · have r0 : ev (.tmp 34) = g.2.1 := hr (34, some 4) (by simp); have hk := he.1; clear hr he
            go_simp
          refine GFrom.cons (GStep.val _ rfl rfl _ rfl (fun g => g.2.2.2) (fun _ => rfl) (fun _ => trivial) (fun bs g ev wq hS he hr => ?_)) ?_
          · have r0 : ev (.tmp 38) = g.2.2.2 := hr (38, some 8) (by simp); have hk := he.1; clear hr he
            go_simp
          exact GFrom.nil
        case hS => exact J0
        case hend =>
          intro g w9 h9
          obtain ⟨v30, v4', v37, v5'⟩ := g
          have j9 := h9.out
          have HR3 := hid j9.r3
          have B9 := hid j9.b7
          have HR4 : Hid (w9.ownsRow w.heap.size 3 1 v4' (IS ++ [(n3 : Int)]).length ((IS ++ [(n3 : Int)]).map (Value.int .i64))) := hid (j9.a1 rfl)
          have HR5 : Hid (w9.ownsRow w.heap.size 24 2 v5' (ps ++ [((k, .slice yf L df, zs) : FrT)]).length ((ps ++ [((k, .slice yf L df, zs) : FrT)]).flatMap ftL)) := hid (j9.b1 rfl)
          have K9 := hid j9.kp
          clear h9 j9 J0
          simp only [putAll, List.zip_cons_cons, List.zip_nil_right, List.foldl_cons, List.foldl_nil, Act.put, List.setIfInBounds_toArray, List.set_cons_zero, List.set_cons_succ]
          have p0 := B9.out.cell 0
          have p1 := B9.out.cell 1
          simp only [List.getElem?_cons_zero, List.getElem?_cons_succ] at p0 p1
          have hrz : rightF k zs.length = true := by rw [HL.out]; exact HBR.out
          obtain ⟨F, hF⟩ : ∃ F, frameF k zs = F := ⟨_, rfl⟩
          obtain ⟨nF, hnF⟩ : ∃ n, F.length = n := ⟨_, rfl⟩
          have HF := hid hF
          have HNF := hid hnF
          have BFZ : Hid (IsBytes F) := hid (by rw [← hF]; exact frame_bytes k zs HBQ.out.1 hrz)
          have HFB : Hid (nF ≤ 2061) := hid (by
            have h := frame_length k zs hrz
            have rp := right_parts hrz
            have h3 := sizeN_3 zs.length (by omega) (by omega)
            rw [hF, hnF] at h
            unfold costF at h
            rw [if_pos (by omega)] at h
            omega)
          have CP : Hid (∀ w, BySl Nb w (.slice yf L df) zs → Calls Try.prog 13 #[frV k (.slice yf L df)] w fun e w' => ∃ r, e = .returned r ∧ w'.ownsRow w.heap.size 5 1 r nF (F.map (Value.int .u8)) ∧ Kp Nb w w') := hid (fun w hv => by
            have h := fput_yes k _ zs w hv hrz
            rw [hF, hnF] at h
            exact h)
          clear hF hnF hrz
          go_wp2_with fail
          refine (CP.out _ (HBQ.out.kept (K9.out) (fun _ h => h))).mono ?_
          rintro e w10 ⟨r, rfl, ow, k10⟩
          have BR : Hid (BySl Nb w10 r F) := hid (BySl.ofOwn (base := w9.heap.size) (by rw [HNF.out]; exact ow) BFZ.out (fun _ _ _ h => h))
          obtain ⟨yr, dr, rfl⟩ := own_shape ow
          have FR := hid (rows_by BR.out)
          have HR3' := hid (ownsRow_kpn HR3.out k10)
          have HR4' := hid (ownsRow_kpn HR4.out k10)
          have HR5' := hid (ownsRow_kpn HR5.out k10)
          have K10 := hid (K9.out.trans k10 (fun _ _ h => h))
          obtain ⟨i0, z0, hi, hz0, hz1, hz2, hz3⟩ := byte_info3
          have LL : Hid (Z3.length + F.length ≤ maxLen ∧ (Z3.length + F.length) * 1 ≤ 140737488355328) := hid (by rw [HZ3.out, HNF.out]; have := HFB.out; unfold maxLen; omega)
          clear ow k10 HR3 HR4 HR5 K9 BR CP p0 p1
          go_wp2_with (at_builtin; refine wpList_append_rows (f := bF) (z := 0) (c := 1) rfl _ _ 22 rfl w.heap.size 5 i0 z0 1 Try.underlying22 hi hz0 hz1 hz2 hz3 (by decide) _ _ _ rfl HR3'.out _ F rfl FR.out (fun q _ => rfl) (fun q _ u hu => by rw [List.mem_singleton.1 hu]; rfl) LL.out.1 LL.out.2 K10.out.size ?_)
          intro v11 w11 hown hgrow
          have RE : Hid (JoR w l (.int .i64 ((j : Int) + 1)) v11 v4' v5' w11) := hid (by
            refine ⟨j + 1, by have := HN.out; omega, by go_num, hid ?_⟩
            rw [HP.out]
            have e1 : (ps ++ [((k, .slice yf L df, zs) : FrT)]).map ftK = ps.map ftK ++ [(k, zs)] := by rw [List.map_append]; rfl
            have e2 : joinF (ps.map ftK ++ [(k, zs)]) = Z3 ++ F := by rw [joinF_append, EZ.out, joinF_cons, joinF_nil, List.append_nil, HF.out]
            refine ⟨kp_grown HR3'.out hgrow rfl K10.out, ?_, ?_, grown_row HR3'.out hgrow HR5'.out (by decide), ?_⟩
            · rw [e1, e2, List.length_append, List.map_append, ← flat_bytes F]
              exact hown
            · have e3 : plF (ps.map ftK ++ [(k, zs)]) = IS ++ [(n3 : Int)] := by rw [plF_snoc, EI.out, EZ.out, HZ3.out]
              rw [e1, e3]
              exact grown_row HR3'.out hgrow HR4'.out (by decide)
            · rw [e1, e2, List.length_append, HZ3.out, HNF.out]
              have := HFB.out
              have := HL2.out
              omega)
          clear hown hgrow HR3' HR4' HR5' K10 FR LL hi hz0 hz1 hz2 hz3
          go_wp2
          go_roundw
          case rel => exact RE.out
          case measure => simp [intOf]; omega
    · have ejn : j = n := by omega
      subst ejn
      obtain ⟨ps, hps⟩ : ∃ ps, pickF l = ps := ⟨_, rfl⟩
      have htk : l.take j = l := List.take_of_length_le (by have := HN.out; omega)
      have RTP : Hid (∀ g ∈ ps.map ftK, RtF g) := hid (by rw [← hps]; exact pickF_rt HIB.out)
      have HBP : Hid (∀ q ∈ ps, BySl Nb w q.2.1 q.2.2) := hid (fun q hq => HBY.out q (by rw [← hps] at hq; exact (List.mem_filter.1 hq).1))
      obtain ⟨np, hnp⟩ : ∃ m, ps.length = m := ⟨_, rfl⟩
      have HNP := hid hnp
      have HIL : Hid ((plF (ps.map ftK)).length = np) := hid (by rw [plF_length, List.length_map, hnp])
      rw [htk, hps]
      have S0 : JoS w ps (.slice y3 (joinF (ps.map ftK)).length d3) (.slice y4 np d4) (.slice y5 np d5) wr := by
        have h := HS.out
        rw [htk, hps] at h
        rw [HIL.out, hnp] at h
        exact h
      have HNB : Hid (np ≤ 900) := hid (by
        have h := join_long _ RTP.out
        rw [List.length_map, hnp] at h
        have := S0.len
        omega)
      rw [HIL.out, hnp]
      have BV : Hid (BySl Nb wr (.slice y3 (joinF (ps.map ftK)).length d3) (joinF (ps.map ftK))) := hid (BySl.ofOwn S0.r3 (joinF_bytes _ RTP.out) (fun _ _ _ h => h))
      have Q4 : Hid (RowsSl (fun z => [Value.int .i64 z]) 0 1 wr (.slice y4 np d4) (plF (ps.map ftK))) := hid (rows_owned (base := w.heap.size) (e := 3) (by rw [flat_ints]; exact S0.r4) (fun _ _ => rfl))
      have Q5 : Hid (RowsSl ftL ftZ 2 wr (.slice y5 np d5) ps) := hid (rows_owned S0.r5 (fun _ _ => rfl))
      have LZ : Hid ((joinF (ps.map ftK)).length ≤ 8061) := hid S0.len
      have KW := hid S0.kp
      clear S0 HS htk hps hnp
      obtain ⟨n3, hn3⟩ : ∃ n3, (joinF (ps.map ftK)).length = n3 := ⟨_, rfl⟩
      rw [hn3] at BV ⊢
      clear hn3
      go_wp2_with fail
      refine (fall_rows _ _ 1000 _ BV.out (by have := LZ.out; omega)).mono ?_
      rintro e w2 ⟨v1, v2, xs, rfl, r1, r2, hsp, hle, k2⟩
      have hxl : xs.length = np := by
        have h := found_join RTP.out hsp (by rw [List.length_map, HNP.out]; have := HNB.out; omega) hle
        rw [h, List.length_map, HNP.out]
      obtain ⟨y1, d1, rfl⟩ := r1.shape
      obtain ⟨y2, d2, rfl⟩ := r2.shape
      have R1 := hid r1
      have R2 := hid r2
      have HSP := hid hsp
      have HXL := hid hxl
      rw [hxl] at R1 R2
      have Q4' := hid (Q4.out.kept k2)
      have Q5' := hid (Q5.out.kept k2)
      have K2 := hid (KW.out.trans k2 (fun _ _ h => h))
      rw [hxl]
      clear r1 r2 hsp hle k2 hxl Q4 Q5 KW BV LZ
      go_wp2
      go_loopw [63] (JtR w2 np) (fun i _ => np - (intOf i).toNat)
      case atStart => exact ⟨0, Nat.zero_le _, rfl, hid (Kp.refl _ _)⟩
      case round =>
        obtain ⟨m, hm, rfl, HK⟩ := hrel
        by_cases hlt : m < np
        · obtain ⟨g1, o1, c1, e1, n1, m1, q1⟩ := rows_pos R1.out HXL.out (by omega)
          obtain ⟨g2, o2, c2, e2, n2, m2, q2⟩ := rows_pos R2.out HXL.out (by omega)
          obtain ⟨g4, o4, c4, e4, n4, m4, q4⟩ := rows_pos Q4'.out HIL.out (by omega)
          obtain ⟨g5, o5, c5, e5, n5, m5, q5⟩ := rows_pos Q5'.out HNP.out (by omega)
          injection e1 with a1 a2 a3
          injection e2 with b1 b2 b3
          injection e4 with r1 r2 r3
          injection e5 with s1 s2 s3
          subst a1 a3 b1 b3 r1 r3 s1 s3
          clear a2 b2 r2 s2
          obtain ⟨⟨kq, vq, zq⟩, hpe⟩ : ∃ q, ps[m]? = some q := ⟨_, List.getElem?_eq_getElem (by have := HNP.out; omega)⟩
          obtain ⟨⟨px, kx, yx, nx, dx⟩, hxe⟩ : ∃ x, xs[m]? = some x := ⟨_, List.getElem?_eq_getElem (by have := HXL.out; omega)⟩
          have hKm : (ps.map ftK)[m]? = some (kq, zq) := by rw [List.getElem?_map, hpe]; rfl
          have hml : m < (ps.map ftK).length := (List.getElem?_eq_some_iff.1 hKm).1
          have hKe : (ps.map ftK)[m] = (kq, zq) := (List.getElem?_eq_some_iff.1 hKm).2
          obtain ⟨x1, x2, x3, -⟩ := HSP.out.2 m _ hxe
          rw [at_join RTP.out m (by omega)] at x1
          rw [fr_join RTP.out m hml, hKe] at x2 x3
          dsimp only at x1 x2 x3
          have hpl := plF_at (ps.map ftK) m hml
          rw [← x1] at hpl
          have hbq := HBP.out _ (List.mem_of_getElem? hpe)
          dsimp only at hbq
          obtain ⟨yq, dq, rfl⟩ := hbq.shp
          obtain ⟨Lq, hLq⟩ : ∃ L, zq.length = L := ⟨_, rfl⟩
          rw [hLq] at hbq hpe
          obtain ⟨y', d', e'⟩ := x3.shp
          rw [hLq] at e'
          injection e' with u1 u2 u3
          subst x2 u1 u2 u3
          have t1 := q1 m hlt
          have t2 := q2 m hlt
          have t4 := q4 m hlt
          have t5 := q5 m hlt
          rw [hxe] at t1 t2
          rw [hpl] at t4
          rw [hpe] at t5
          have C1 : Hid (w2.cell? ⟨g1, o1 + m, none⟩ = some (.int .i64 (px : Int))) := hid (by have h := t1 0 _ rfl; rw [Nat.mul_one] at h; exact h)
          have C4 : Hid (w2.cell? ⟨g4, o4 + m, none⟩ = some (.int .i64 (px : Int))) := hid (by have h := t4 0 _ rfl; rw [Nat.mul_one] at h; exact h)
          have R2' : Hid (w2.rangeAt g2 (o2 + m * 2) (frL kx (.slice yx nx dx))) := hid t2
          have R5' : Hid (w2.rangeAt g5 (o5 + m * 2) (frL kx (.slice yq nx dq))) := hid t5
          have BX : Hid (BySl Nb w2 (.slice yx nx dx) zq) := hid x3
          have BQ : Hid (BySl Nb w2 (.slice yq nx dq) zq) := hid (hbq.kept K2.out (fun _ h => h))
          have CS : Hid (∀ u v wq, BySl Nb wq u zq → BySl Nb wq v zq → Calls Try.prog 14 #[frV kx u, frV kx v] wq fun e w' => e = .returned (.bool true) ∧ Kp Nb wq w') := hid (fun u v wq h1 h2 => by
            have h := fsame_any kx kx u v zq zq wq h1 h2
            rw [show sameF kx kx zq zq = true from by simp [sameF]] at h
            exact h)
          unfold maxLen at m1 m2 m4 m5
          have BD := hid (show m < np ∧ np ≤ 900 from ⟨hlt, HNB.out⟩)
          have BN := hid (show np ≤ d1 ∧ np ≤ d2 ∧ np ≤ d4 ∧ np ≤ d5 from ⟨n1, n2, n4, n5⟩)
          clear x1 x3 hpl hbq hLq t1 t2 t4 t5 q1 q2 q4 q5 hxe hpe hKm hml hKe m1 m2 m4 m5 n1 n2 n4 n5
          go_upto_region 21 with fail
          refine region_vals2 [none, none, none, none, none, none, none, none, none, none, none, none, none, none, none, none, none, none, none, none, none, none, none, none, none, none, none, none, none, none, none, none, none, none, none, none, none, none, none, none, none, none, none, none, none, none, none, none, none, none, none, none, none, none, none, none, none, none, none, none, none, none, none, none, none, none, some 0, some 1, some 2, some 3, some 4, some 5, some 6, some 7, some 8, some 9, some 10, some 11, some 12, some 13, some 14, some 15, some 16, some 17, some 18, some 19, some 20, none] [[(8, none)], [(10, none)], [(66, some 0), (67, some 1)], [(68, some 2)], [(4, none)], [(10, none)], [(70, some 4), (71, some 5)], [(72, some 6)], [(69, some 3), (73, some 7)], [(74, some 8)], [(9, none)], [(10, none)], [(76, some 10), (77, some 11)], [(78, some 12)], [(5, none)], [(10, none)], [(80, some 14), (81, some 15)], [(82, some 16)], [(79, some 13), (83, some 17)], [(84, some 18)], [(75, some 9), (85, some 19)]] [some 66, some 67, some 68, some 69, some 70, some 71, some 72, some 73, some 74, some 75, some 76, some 77, some 78, some 79, some 80, some 81, some 82, some 83, some 84, some 85, some 86] [.slice (some ⟨g1, o1, none⟩) np d1, .int .i64 (m : Int), .pointer (some ⟨g1, o1 + m, none⟩), .int .i64 (px : Int), .slice (some ⟨g4, o4, none⟩) np d4, .int .i64 (m : Int), .pointer (some ⟨g4, o4 + m, none⟩), .int .i64 (px : Int), .bool false, .bool false, .slice (some ⟨g2, o2, none⟩) np d2, .int .i64 (m : Int), .pointer (some ⟨g2, o2 + m * 2, none⟩), frV kx (.slice yx nx dx), .slice (some ⟨g5, o5, none⟩) np d5, .int .i64 (m : Int), .pointer (some ⟨g5, o5 + m * 2, none⟩), frV kx (.slice yq nx dq), .bool true, .bool false, .bool false] (fun w' => Hid (Kp Nb w2 w')) (by kernel_rfl) (by kernel_rfl) (by kernel_rfl) ?hS (VFrom.all (n := 21) (by kernel_rfl) ?hstep) ?hend
          case hstep =>
            refine VFrom.cons (VStep.val _ rfl _ rfl (.slice (some ⟨g1, o1, none⟩) np d1) rfl trivial (fun ev wq hS he hr => ?_)) ?_
            · have r0 : ev (.tmp 8) = .slice (some ⟨g1, o1, none⟩) np d1 := hr (8, none) (by simp); have hk := he.1; clear hr he
              go_simp
            refine VFrom.cons (VStep.val _ rfl _ rfl (.int .i64 (m : Int)) rfl trivial (fun ev wq hS he hr => ?_)) ?_
            · have r0 : ev (.tmp 10) = .int .i64 (m : Int) := hr (10, none) (by simp); have hk := he.1; clear hr he
              go_simp
            refine VFrom.cons (VStep.val _ rfl _ rfl (.pointer (some ⟨g1, o1 + m, none⟩)) rfl trivial (fun ev wq hS he hr => ?_)) ?_
            · have r0 : ev (.tmp 66) = .slice (some ⟨g1, o1, none⟩) np d1 := hr (66, some 0) (by simp); have r1 : ev (.tmp 67) = .int .i64 (m : Int) := hr (67, some 1) (by simp); have hk := he.1; clear hr he
              have e1 := BD.out; have e2 := BN.out
              go_simp
            refine VFrom.cons (VStep.val _ rfl _ rfl (.int .i64 (px : Int)) rfl trivial (fun ev wq hS he hr => ?_)) ?_
            · have r0 : ev (.tmp 68) = .pointer (some ⟨g1, o1 + m, none⟩) := hr (68, some 2) (by simp); have hk := he.1; clear hr he
              have c0 := hS.out.cell C1.out (fun h => h)
              go_simp
            refine VFrom.cons (VStep.val _ rfl _ rfl (.slice (some ⟨g4, o4, none⟩) np d4) rfl trivial (fun ev wq hS he hr => ?_)) ?_
            · have r0 : ev (.tmp 4) = .slice (some ⟨g4, o4, none⟩) np d4 := hr (4, none) (by simp); have hk := he.1; clear hr he
              go_simp
            refine VFrom.cons (VStep.val _ rfl _ rfl (.int .i64 (m : Int)) rfl trivial (fun ev wq hS he hr => ?_)) ?_
            · have r0 : ev (.tmp 10) = .int .i64 (m : Int) := hr (10, none) (by simp); have hk := he.1; clear hr he
              go_simp
            refine VFrom.cons (VStep.val _ rfl _ rfl (.pointer (some ⟨g4, o4 + m, none⟩)) rfl trivial (fun ev wq hS he hr => ?_)) ?_
            · have r0 : ev (.tmp 70) = .slice (some ⟨g4, o4, none⟩) np d4 := hr (70, some 4) (by simp); have r1 : ev (.tmp 71) = .int .i64 (m : Int) := hr (71, some 5) (by simp); have hk := he.1; clear hr he
              have e1 := BD.out; have e2 := BN.out
              go_simp
            refine VFrom.cons (VStep.val _ rfl _ rfl (.int .i64 (px : Int)) rfl trivial (fun ev wq hS he hr => ?_)) ?_
            · have r0 : ev (.tmp 72) = .pointer (some ⟨g4, o4 + m, none⟩) := hr (72, some 6) (by simp); have hk := he.1; clear hr he
              have c0 := hS.out.cell C4.out (fun h => h)
              go_simp
            refine VFrom.cons (VStep.val _ rfl _ rfl (.bool false) rfl trivial (fun ev wq hS he hr => ?_)) ?_
            · have r0 : ev (.tmp 69) = .int .i64 (px : Int) := hr (69, some 3) (by simp); have r1 : ev (.tmp 73) = .int .i64 (px : Int) := hr (73, some 7) (by simp); have hk := he.1; clear hr he
              go_simp
            refine VFrom.cons (VStep.val _ rfl _ rfl (.bool false) rfl trivial (fun ev wq hS he hr => ?_)) ?_
            · have r0 : ev (.tmp 74) = .bool false := hr (74, some 8) (by simp); have hk := he.1; clear hr he
              go_simp
            refine VFrom.cons (VStep.val _ rfl _ rfl (.slice (some ⟨g2, o2, none⟩) np d2) rfl rfl (fun ev wq hS he hr => ?_)) ?_
            · have r0 : ev (.tmp 9) = .slice (some ⟨g2, o2, none⟩) np d2 := hr (9, none) (by simp); have hk := he.1; clear hr he
              go_simp
            refine VFrom.cons (VStep.val _ rfl _ rfl (.int .i64 (m : Int)) rfl rfl (fun ev wq hS he hr => ?_)) ?_
            · have r0 : ev (.tmp 10) = .int .i64 (m : Int) := hr (10, none) (by simp); have hk := he.1; clear hr he
              go_simp
            refine VFrom.cons (VStep.val _ rfl _ rfl (.pointer (some ⟨g2, o2 + m * 2, none⟩)) rfl rfl (fun ev wq hS he hr => ?_)) ?_
            · have r0 : ev (.tmp 76) = .slice (some ⟨g2, o2, none⟩) np d2 := hr (76, some 10) (by simp); have r1 : ev (.tmp 77) = .int .i64 (m : Int) := hr (77, some 11) (by simp); have hk := he.1; clear hr he
              have e1 := BD.out; have e2 := BN.out
              go_simp
            refine VFrom.cons (VStep.val _ rfl _ rfl (frV kx (.slice yx nx dx)) rfl rfl (fun ev wq hS he hr => ?_)) ?_
            · have r0 : ev (.tmp 78) = .pointer (some ⟨g2, o2 + m * 2, none⟩) := hr (78, some 12) (by simp); have hk := he.1; clear hr he
              exact exec_load rfl r0 (frr_load (rngf_kept R2'.out hS.out))
            refine VFrom.cons (VStep.val _ rfl _ rfl (.slice (some ⟨g5, o5, none⟩) np d5) rfl rfl (fun ev wq hS he hr => ?_)) ?_
            · have r0 : ev (.tmp 5) = .slice (some ⟨g5, o5, none⟩) np d5 := hr (5, none) (by simp); have hk := he.1; clear hr he
              go_simp
            refine VFrom.cons (VStep.val _ rfl _ rfl (.int .i64 (m : Int)) rfl rfl (fun ev wq hS he hr => ?_)) ?_
            · have r0 : ev (.tmp 10) = .int .i64 (m : Int) := hr (10, none) (by simp); have hk := he.1; clear hr he
              go_simp
            refine VFrom.cons (VStep.val _ rfl _ rfl (.pointer (some ⟨g5, o5 + m * 2, none⟩)) rfl rfl (fun ev wq hS he hr => ?_)) ?_
            · have r0 : ev (.tmp 80) = .slice (some ⟨g5, o5, none⟩) np d5 := hr (80, some 14) (by simp); have r1 : ev (.tmp 81) = .int .i64 (m : Int) := hr (81, some 15) (by simp); have hk := he.1; clear hr he
              have e1 := BD.out; have e2 := BN.out
              go_simp
            refine VFrom.cons (VStep.val _ rfl _ rfl (frV kx (.slice yq nx dq)) rfl rfl (fun ev wq hS he hr => ?_)) ?_
            · have r0 : ev (.tmp 82) = .pointer (some ⟨g5, o5 + m * 2, none⟩) := hr (82, some 16) (by simp); have hk := he.1; clear hr he
              exact exec_load rfl r0 (frr_load (rngf_kept R5'.out hS.out))
            refine VFrom.cons (VStep.call _ rfl _ rfl (.bool true) rfl rfl 14 #[frV kx (.slice yx nx dx), frV kx (.slice yq nx dq)] (fun ev wq hS he hr => ?_) (fun wq hS => ?_)) ?_
            · have r0 : ev (.tmp 79) = frV kx (.slice yx nx dx) := hr (79, some 13) (by simp); have r1 : ev (.tmp 83) = frV kx (.slice yq nx dq) := hr (83, some 17) (by simp); have hk := he.1; have hf := he.2; clear hr he
              go_simp
            · exact (CS.out _ _ wq (BX.out.kept hS.out (fun _ h => h)) (BQ.out.kept hS.out (fun _ h => h))).mono fun e w' ⟨h1, h2⟩ => ⟨h1, hid (hS.out.trans h2 (fun _ _ h => h))⟩
            refine VFrom.cons (VStep.val _ rfl _ rfl (.bool false) rfl rfl (fun ev wq hS he hr => ?_)) ?_
            · have r0 : ev (.tmp 84) = .bool true := hr (84, some 18) (by simp); have hk := he.1; clear hr he
              go_simp
            refine VFrom.cons (VStep.val _ rfl _ rfl (.bool false) rfl trivial (fun ev wq hS he hr => ?_)) ?_
            · have r0 : ev (.tmp 75) = .bool false := hr (75, some 9) (by simp); have r1 : ev (.tmp 85) = .bool false := hr (85, some 19) (by simp); have hk := he.1; clear hr he
              go_simp
            exact VFrom.nil
          case hS => exact hid HK.out.drew
          case hend =>
            intro wy hy
            have K9 := hid hy.out
            clear hy
            have hb1 := BD.out.1
            have hb2 := BD.out.2
            simp only [putAll, List.zip_cons_cons, List.zip_nil_right, List.foldl_cons, List.foldl_nil, Act.put, List.setIfInBounds_toArray, List.set_cons_zero, List.set_cons_succ]
            go_wp2
            go_roundw
            case rel => exact ⟨m + 1, by have := BD.out; omega, by go_num, K9⟩
            case measure => simp [intOf]; have := BD.out; omega
        · obtain rfl : m = np := by omega
          have K9 := hid (K2.out.trans HK.out (fun _ _ h => h))
          go_wp2
          go_ret
          exact ⟨rfl, K9.out⟩

end Go.Proofs.Ytmgmghlflldepaa
