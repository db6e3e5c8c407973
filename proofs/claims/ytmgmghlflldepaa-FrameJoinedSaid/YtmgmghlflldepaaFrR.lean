/-
  Layer 19: the law FrameHolds. Conditions: bytes.
-/
import Derived.Test.YtmgmghlflldepaaFrI
import Derived.Test.YtmgmghlflldepaaVars
import Derived.Test.YtmgmghlflldepaaGhostL
namespace Go.Proofs.Ytmgmghlflldepaa
open Go.RowKit Go.Shelf
attribute [local go_sem] Oper.semAt_some

/-- A case's cells. -/
abbrev caseL (vb : Value) (k : Int) (vf : Value) (m a c x : Int) : List Value := [vb, .int .i64 k, vf, .int .i64 m, .int .i64 a, .int .u16 c, .int .u8 x]
abbrev caseV (vb : Value) (k : Int) (vf : Value) (m a c x : Int) : Value := .agg #[vb, .int .i64 k, vf, .int .i64 m, .int .i64 a, .int .u16 c, .int .u8 x]
theorem case_fr {w : World} {D : Nat} {vb vf : Value} {k m a c x : Int} (h : Blk w D 39 (caseL vb k vf m a c x)) : (Instr.loadAt 24 (.pointer (some ⟨D, 1, none⟩))).run Try.prog w = .ok (frV k vf) w :=
  frr_load (h.range 1 (frL k vf) (fun j hj => by
    rcases j with _ | _ | j
    · rfl
    · rfl
    · simp at hj; omega))
theorem fr_store {w : World} {B : Nat} {k : Int} {v : Value} (hv : v.oneCell' = true) (ht : w.there B 0 2) : (Instr.storeAt 24 (.pointer (some ⟨B, 0, none⟩)) (frV k v)).run Try.prog w = .ok () (w.setCells B 0 (frL k v)) :=
  run_storeAt_mid w B 0 24 (frL k v).toArray ht (by rw [List.size_toArray]; exact fr_infoL k v) (all_oneCell_toArray (frL_one k v hv))
def fvT : Nat → TypeId := fun _ => 24
def fvZ : Nat → List Value := fun _ => frL 0 (.slice none 0 0)
def fvV (k : Int) (v : Value) : Nat → List Value := fun _ => frL k v

set_option maxRecDepth 100000 in
set_option maxHeartbeats 16000000 in
theorem fholds_any (vb vf : Value) (more zs : List Int) (k m a c x : Int) (w : World) (hb : BySl Nb w vb more) (hf : BySl Nb w vf zs) (hc : 0 ≤ c ∧ c < 65536) (hx : 0 ≤ x ∧ x < 256) :
    Calls Try.prog 5 #[caseV vb k vf m a c x] w fun e w' => e = .returned (.bool true) ∧ Kp Nb w w' := by
  obtain ⟨yb, db, rfl⟩ := hb.shp
  obtain ⟨yf, df, rfl⟩ := hf.shp
  obtain ⟨Lb, hLb⟩ : ∃ L, more.length = L := ⟨_, rfl⟩
  obtain ⟨Lf, hLf⟩ : ∃ L, zs.length = L := ⟨_, rfl⟩
  rw [hLb] at hb ⊢
  rw [hLf] at hf ⊢
  have HLb := hid hLb
  have HLf := hid hLf
  obtain ⟨cn, rfl⟩ : ∃ cn : Nat, c = (cn : Int) := ⟨c.toNat, by omega⟩
  have HC : Hid (cn < 65536) := hid (by omega)
  have HX := hid hx
  obtain ⟨D, hD⟩ : ∃ D, w.heap.size = D := ⟨_, rfl⟩
  obtain ⟨W, hW⟩ : ∃ W, W = w.alloc (.cells (caseL (.slice yb Lb db) k (.slice yf Lf df) m a cn x).toArray 39) := ⟨_, rfl⟩
  have H0 : Hid (Blk W D 39 (caseL (.slice yb Lb db) k (.slice yf Lf df) m a cn x)) := hid (by rw [hW, ← hD]; exact Blk.new w _ _)
  have k0 : Kp Nb w W := by rw [hW]; exact (Kp.refl Nb w).alloc _
  have K0 := hid k0
  have HB0 := hid (hb.kept k0 (fun _ h => h))
  have HF0 := hid (hf.kept k0 (fun _ h => h))
  clear hb hf hLb hLf k0 hc hx
  go_enter Try.func5, Try.ntmps5
  go_upto_region 1 with fail
  rw [show w.alloc (.cells #[.slice yb Lb db, .int .i64 k, .slice yf Lf df, .int .i64 m, .int .i64 a, .int .u16 (cn : Int), .int .u8 x] 39) = W from hW.symm]
  clear hW hD
  go_wp2_with fail
  refine (ffirst_any _).mono ?_
  rintro e w1 ⟨rfl, k1⟩
  have H1 := hid (H0.out.kept k1 (fun h => h))
  have HB1 := hid (HB0.out.kept k1 (fun _ h => h))
  have HF1 := hid (HF0.out.kept k1 (fun _ h => h))
  have K1 := hid (K0.out.trans k1 (fun _ _ h => h))
  clear k1 H0 HB0 HF0 K0
  go_upto_region 3 with fail
  refine region_ghost (g0 := (fun _ => 0)) [none, none, none, some 8, some 10, some 11, some 12, none, none, none, none, none, none, none, none, none, none, none, some 0, some 1, some 2, some 3, some 4, some 5, some 6, some 7, none, none, none, none, none, none, none, none, none, none, none, none, none, none, none, none, none, none, none, none, none, none, none, none, none, none, none, none, none, none, none, none, none, none, none, none, none, none, none, none, none, none, none, none, none, none, none, none, none, none, none, none, none, none, none, none, none, none, none, none, none, none, none, none, none, none, none, none, none, none, none, none, none, none, none, none, none, none, none, none, none, none, none, none, none] [[(1, none)], [(18, some 0)], [(1, none)], [(20, some 2)], [(1, none)], [(22, some 4)], [(1, none)], [(24, some 6)], [], [(3, some 8), (19, some 1)], [(21, some 3)], [(23, some 5)], [(25, some 7)]] [some 18, some 19, some 20, some 21, some 22, some 23, some 24, some 25, some 3, none, some 4, some 5, some 6] (fun g => [.pointer (some ⟨D, 1, none⟩), frV k (.slice yf Lf df), .pointer (some ⟨D, 5, none⟩), .int .u16 (cn : Int), .pointer (some ⟨D, 0, none⟩), .slice yb Lb db, .pointer (some ⟨D, 6, none⟩), .int .u8 x, .pointer (some ⟨(g 0), 0, none⟩), undef, .int .u16 (cn : Int), .slice yb Lb db, .int .u8 x]) [8, 9] (fun bs g wq => Hid (VarsS w1 1 fvT fvZ (fvV k (.slice yf Lf df)) bs g wq)) (by kernel_rfl) (by kernel_rfl) (fun g => by kernel_rfl) (by kernel_rfl) ?hS (GFrom.all (n := 13) (by kernel_rfl) ?hstep) ?hend
  case hstep =>
    refine GFrom.cons (GStep.val _ rfl rfl _ rfl (fun g => .pointer (some ⟨D, 1, none⟩)) (fun _ => rfl) (fun _ => trivial) (fun bs g ev wq hS he hr => ?_)) ?_
    · have r0 : ev (.tmp 1) = .pointer (some ⟨D, 0, none⟩) := hr (1, none) (by simp); have hk := he.1; clear hr he
      go_simp
    refine GFrom.cons (GStep.val _ rfl rfl _ rfl (fun g => frV k (.slice yf Lf df)) (fun _ => rfl) (fun _ => trivial) (fun bs g ev wq hS he hr => ?_)) ?_
    · have r0 : ev (.tmp 18) = .pointer (some ⟨D, 1, none⟩) := hr (18, some 0) (by simp); have hk := he.1; clear hr he
      exact exec_load rfl r0 (case_fr (H1.out.kept hS.out.kp (fun h => h)))
    refine GFrom.cons (GStep.val _ rfl rfl _ rfl (fun g => .pointer (some ⟨D, 5, none⟩)) (fun _ => rfl) (fun _ => trivial) (fun bs g ev wq hS he hr => ?_)) ?_
    · have r0 : ev (.tmp 1) = .pointer (some ⟨D, 0, none⟩) := hr (1, none) (by simp); have hk := he.1; clear hr he
      go_simp
    refine GFrom.cons (GStep.val _ rfl rfl _ rfl (fun g => .int .u16 (cn : Int)) (fun _ => rfl) (fun _ => trivial) (fun bs g ev wq hS he hr => ?_)) ?_
    · have r0 : ev (.tmp 20) = .pointer (some ⟨D, 5, none⟩) := hr (20, some 2) (by simp); have hk := he.1; clear hr he
      have c0 := (H1.out.kept hS.out.kp (fun h => h)).cell 5
      go_simp
    refine GFrom.cons (GStep.val _ rfl rfl _ rfl (fun g => .pointer (some ⟨D, 0, none⟩)) (fun _ => rfl) (fun _ => trivial) (fun bs g ev wq hS he hr => ?_)) ?_
    · have r0 : ev (.tmp 1) = .pointer (some ⟨D, 0, none⟩) := hr (1, none) (by simp); have hk := he.1; clear hr he
      go_simp
    refine GFrom.cons (GStep.val _ rfl rfl _ rfl (fun g => .slice yb Lb db) (fun _ => rfl) (fun _ => trivial) (fun bs g ev wq hS he hr => ?_)) ?_
    · have r0 : ev (.tmp 22) = .pointer (some ⟨D, 0, none⟩) := hr (22, some 4) (by simp); have hk := he.1; clear hr he
      have c0 := (H1.out.kept hS.out.kp (fun h => h)).cell 0
      go_simp
    refine GFrom.cons (GStep.val _ rfl rfl _ rfl (fun g => .pointer (some ⟨D, 6, none⟩)) (fun _ => rfl) (fun _ => trivial) (fun bs g ev wq hS he hr => ?_)) ?_
    · have r0 : ev (.tmp 1) = .pointer (some ⟨D, 0, none⟩) := hr (1, none) (by simp); have hk := he.1; clear hr he
      go_simp
    refine GFrom.cons (GStep.val _ rfl rfl _ rfl (fun g => .int .u8 x) (fun _ => rfl) (fun _ => trivial) (fun bs g ev wq hS he hr => ?_)) ?_
    · have r0 : ev (.tmp 24) = .pointer (some ⟨D, 6, none⟩) := hr (24, some 6) (by simp); have hk := he.1; clear hr he
      have c0 := (H1.out.kept hS.out.kp (fun h => h)).cell 6
      go_simp
    refine GFrom.cons (GStep.valloc 0 _ rfl (by decide) rfl rfl rfl 9 _ rfl rfl (by kernel_rfl) (fun g x => by kernel_rfl) (fun g => by simp) (fun ev w => by go_simp; rfl)) ?_
    refine GFrom.cons (GStep.vfill 0 _ rfl (by decide) rfl rfl rfl 8 rfl (by kernel_rfl) (rfl) (fun _ => rfl) _ rfl (fun g ev wq he hr ht => ?_)) ?_
    · have r0 : ev (.tmp 3) = .pointer (some ⟨(g 0), 0, none⟩) := hr (3, some 8) (by simp); have r1 : ev (.tmp 19) = frV k (.slice yf Lf df) := hr (19, some 1) (by simp); have hk := he.1; clear hr he
      exact exec_store rfl r0 r1 (fr_store rfl ht)
    refine GFrom.cons (GStep.val _ rfl rfl _ rfl (fun g => .int .u16 (cn : Int)) (fun _ => rfl) (fun _ => trivial) (fun bs g ev wq hS he hr => ?_)) ?_
    · have r0 : ev (.tmp 21) = .int .u16 (cn : Int) := hr (21, some 3) (by simp); have hk := he.1; clear hr he
      go_simp
    refine GFrom.cons (GStep.val _ rfl rfl _ rfl (fun g => .slice yb Lb db) (fun _ => rfl) (fun _ => trivial) (fun bs g ev wq hS he hr => ?_)) ?_
    · have r0 : ev (.tmp 23) = .slice yb Lb db := hr (23, some 5) (by simp); have hk := he.1; clear hr he
      go_simp
    refine GFrom.cons (GStep.val _ rfl rfl _ rfl (fun g => .int .u8 x) (fun _ => rfl) (fun _ => trivial) (fun bs g ev wq hS he hr => ?_)) ?_
    · have r0 : ev (.tmp 25) = .int .u8 x := hr (25, some 7) (by simp); have hk := he.1; clear hr he
      go_simp
    exact GFrom.nil
  case hS => exact VarsS.start _ _ _ _ _ _ _
  case hend =>
    intro g w2 h2
    have hd := h2.out.done rfl
    have q0 : w1.heap.size ≤ g 0 ∧ Blk w2 (g 0) 24 (frL k (.slice yf Lf df)) := hd.1 0 (by decide)
    have k2 := h2.out.kp
    clear hd h2
    generalize g 0 = b3 at q0 ⊢
    have Q0 := hid q0.2
    have HB2 := hid (HB1.out.kept k2 (fun _ h => h))
    have HF2 := hid (HF1.out.kept k2 (fun _ h => h))
    have K2 := hid (K1.out.trans k2 (fun _ _ h => h))
    clear q0 k2 K1 HB1 HF1 H1 g
    simp only [putAll, List.zip_cons_cons, List.zip_nil_right, List.foldl_cons, List.foldl_nil, Act.put, List.setIfInBounds_toArray, List.set_cons_zero, List.set_cons_succ]
    by_cases hl : 500 < Lb
    · have d1 : decide ((Lb : Int) > 500) = true := decide_eq_true (by omega)
      go_wp2
      go_ret
      exact ⟨rfl, K2.out⟩
    have d1 : decide ((Lb : Int) > 500) = false := decide_eq_false (by omega)
    have HN := hid (Nat.not_lt.1 hl)
    clear hl
    have c0 := Q0.out.cell 0
    have c1 := Q0.out.cell 1
    simp only [List.getElem?_cons_zero, List.getElem?_cons_succ] at c0 c1
    by_cases hr : rightF k Lf = true
    · have hrz : rightF k zs.length = true := by rw [HLf.out]; exact hr
      obtain ⟨F, hF⟩ : ∃ F, frameF k zs = F := ⟨_, rfl⟩
      obtain ⟨n, hn⟩ : ∃ n, F.length = n := ⟨_, rfl⟩
      have hz := HF2.out.1
      have rp := right_parts hr
      have hfl := frame_length k zs hrz
      have hs3 := sizeN_3 zs.length (by omega) (by have := HLf.out; omega)
      have hcost : costF Lf = (n : Int) := by rw [← hn, ← hF, hfl, HLf.out]
      have HNB : Hid (10 ≤ n ∧ n ≤ 2061) := hid (by
        rw [hF, hn] at hfl
        unfold costF at hfl
        rw [if_pos (by have := HLf.out; omega)] at hfl
        have := HLf.out
        omega)
      have HFL := hid hn
      have BFZ : Hid (IsBytes F) := hid (by rw [← hF]; exact frame_bytes k zs hz hrz)
      have CP : Hid (∀ w, BySl Nb w (.slice yf Lf df) zs → Calls Try.prog 13 #[frV k (.slice yf Lf df)] w fun e w' => ∃ r, e = .returned r ∧ w'.ownsRow w.heap.size 5 1 r n (F.map (Value.int .u8)) ∧ Kp Nb w w') := hid (fun w hv => by
        have h := fput_yes k _ zs w hv hrz
        rw [hF, hn] at h
        exact h)
      have CR : Hid (∀ w, Calls Try.prog 12 #[frV k (.slice yf Lf df)] w fun e w' => e = .returned (.bool true) ∧ Kp Nb w w') := hid (fun w => by rw [← hr]; exact fright_any k yf Lf df w)
      have CRD : Hid (∀ v w, BySl Nb w v F → Calls Try.prog 10 #[v] w fun e w' => ∃ y d, e = .returned (.tuple #[frV k (.slice y Lf d), .int .i64 0]) ∧ BySl Nb w' (.slice y Lf d) zs ∧ Kp Nb w w') := hid (fun v w hv => by
        refine (fread_any v F w hv (by rw [HFL.out]; have := HNB.out; omega)).mono ?_
        rw [← hF, read_frame k zs hz hrz]
        rintro e w' ⟨b, rfl, hb, hk⟩
        obtain ⟨y, d, rfl⟩ := hb.shp
        rw [HLf.out] at hb ⊢
        exact ⟨y, d, rfl, hb, hk⟩)
      have CRE : Hid (∀ v zs w (E : Int), BySl Nb w v zs → zs.length ≤ 3000 → (readF zs).2.2 = E → Calls Try.prog 10 #[v] w fun e w' => ∃ k n y d, e = .returned (.tuple #[frV k (.slice y n d), .int .i64 E]) ∧ Kp Nb w w') := hid (fun v zs w E hv hl hE => by
        refine (fread_any v zs w hv (by omega)).mono ?_
        rw [hE]
        rintro e w' ⟨b, rfl, hb, hk⟩
        obtain ⟨y, d, rfl⟩ := hb.shp
        exact ⟨_, _, y, d, rfl, hk⟩)
      have RC : Hid (∀ j, j < n → (readF (F.take j)).2.2 = 10) := hid (fun j hj => by
        rw [← hn, ← hF] at hj
        rw [← hF]
        exact read_cut k zs j hz hrz hj)
      have RM : Hid (readF F = (k, zs, 0) ∧ ∀ t, IsBytes t → t ≠ [] → (readF (F ++ t)).2.2 = 13) := hid ⟨by rw [← hF]; exact read_frame k zs hz hrz, fun t ht hne => by rw [← hF]; exact read_more k zs t hz ht hrz hne⟩
      have RT : Hid (∀ i : Nat, i < 8 → (readF (turnB F ((n : Int) - 1 - i) x)).2.2 = if x = 0 then 0 else 14) := hid (fun i hi => by
        have h := read_turn k zs i x hz hrz hi HX.out
        rw [hF, hn] at h
        exact h)
      have CCO : Hid (∀ w, Calls Try.prog 15 #[.int .i64 (Lf : Int)] w fun e w' => e = .returned (.int .i64 (n : Int)) ∧ w = w') := hid (fun w => by rw [← hcost]; exact fcost_any Lf w)
      have CSM : Hid (∀ u v wq, BySl Nb wq u zs → BySl Nb wq v zs → Calls Try.prog 14 #[frV k u, frV k v] wq fun e w' => e = .returned (.bool true) ∧ Kp Nb wq w') := hid (fun u v wq h1 h2 => by
        have h := fsame_any k k u v zs zs wq h1 h2
        rw [show sameF k k zs zs = true from by simp [sameF]] at h
        exact h)
      clear hF hn hz rp hfl hs3 hcost hr hrz
      go_wp2_with fail
      refine (CP.out _ HF2.out).mono ?_
      rintro e w3 ⟨r, rfl, ow, k3⟩
      obtain ⟨gb, cb, rfl⟩ := own_pos ow (by have := HNB.out; omega)
      have BR3 : Hid (BySl Nb w3 (.slice (some ⟨gb, 0, none⟩) n cb) F) := hid (BySl.ofOwn (base := w2.heap.size) (by rw [HFL.out]; exact ow) BFZ.out (fun _ _ _ h => h))
      have HB3 := hid (HB2.out.kept k3 (fun _ h => h))
      have HF3 := hid (HF2.out.kept k3 (fun _ h => h))
      have Q3 := hid (Q0.out.kept k3 (fun h => h))
      have K3 := hid (K2.out.trans k3 (fun _ _ h => h))
      have c0 := Q3.out.cell 0
      have c1 := Q3.out.cell 1
      simp only [List.getElem?_cons_zero, List.getElem?_cons_succ] at c0 c1
      clear ow k3 HB2 HF2 Q0 K2 CP
      go_wp2_with fail
      refine (CR.out _).mono ?_
      rintro e w4 ⟨rfl, k4⟩
      have BR4 := hid (BR3.out.kept k4 (fun _ h => h))
      have HB4 := hid (HB3.out.kept k4 (fun _ h => h))
      have HF4 := hid (HF3.out.kept k4 (fun _ h => h))
      have Q4 := hid (Q3.out.kept k4 (fun h => h))
      have K4 := hid (K3.out.trans k4 (fun _ _ h => h))
      clear k4 BR3 HB3 HF3 Q3 K3 CR c0 c1
      go_wp2_with fail
      refine (CRD.out _ _ BR4.out).mono ?_
      rintro e w5 ⟨y5, d5, rfl, hb5, k5⟩
      obtain ⟨M5, hM5⟩ : ∃ N, w5.heap.size = N := ⟨_, rfl⟩
      obtain ⟨W5, hW5⟩ : ∃ W, W = w5.alloc (.cells (frL k (.slice y5 Lf d5)).toArray 24) := ⟨_, rfl⟩
      have k5' : Kp Nb w4 W5 := by rw [hW5]; exact k5.alloc _
      have BM5 : Hid (Blk W5 M5 24 (frL k (.slice y5 Lf d5))) := hid (by rw [hW5, ← hM5]; exact Blk.new w5 _ _)
      have BB5 : Hid (BySl Nb W5 (.slice y5 Lf d5) zs) := hid (hb5.kept (by rw [hW5]; exact (Kp.refl Nb w5).alloc _) (fun _ h => h))
      have BR5 := hid (BR4.out.kept k5' (fun _ h => h))
      have HB5 := hid (HB4.out.kept k5' (fun _ h => h))
      have HF5 := hid (HF4.out.kept k5' (fun _ h => h))
      have Q5 := hid (Q4.out.kept k5' (fun h => h))
      have K5 := hid (K4.out.trans k5' (fun _ _ h => h))
      clear k5 k5' hb5 BR4 HB4 HF4 Q4 K4 CRD
      go_upto_region 10 with fail
      rw [show w5.alloc (.cells #[.int .i64 k, .slice y5 Lf d5] 24) = W5 from hW5.symm]
      clear hW5 hM5
      have hcn := HC.out
      have hn0 := HNB.out.1
      have hn1 := HNB.out.2
      obtain ⟨q, hq⟩ : ∃ q, cn % n = q := ⟨_, rfl⟩
      obtain ⟨s8, hs8⟩ : ∃ q, cn % 8 = q := ⟨_, rfl⟩
      have hqn : q < n := by rw [← hq]; exact Nat.mod_lt _ (by omega)
      have hsn : s8 < 8 := by omega
      have ht1 : (cn : Int).tmod (n : Int) = (q : Int) := by rw [Int.tmod_eq_emod_of_nonneg (by omega)]; omega
      have ht2 : (cn : Int).tmod 8 = (s8 : Int) := by rw [Int.tmod_eq_emod_of_nonneg (by omega)]; omega
      obtain ⟨xq, dq, VQ, BQ⟩ := BR5.out.cutH q (by rw [HFL.out]; omega)
      have BQ5 := hid BQ
      have HQN := hid hqn
      clear BQ hq hs8
      go_wp2_with fail
      refine (CRE.out _ _ _ 10 BQ5.out (by rw [List.length_take]; omega) (RC.out q HQN.out)).mono ?_
      rintro e w6 ⟨kk6, n6, y6, d6, rfl, k6⟩
      obtain ⟨M6, hM6⟩ : ∃ N, w6.heap.size = N := ⟨_, rfl⟩
      obtain ⟨W6, hW6⟩ : ∃ W, W = w6.alloc (.cells (frL kk6 (.slice y6 n6 d6)).toArray 24) := ⟨_, rfl⟩
      have k6' : Kp Nb W5 W6 := by rw [hW6]; exact k6.alloc _
      have BM6 := hid (BM5.out.kept k6' (fun h => h))
      have BB6 := hid (BB5.out.kept k6' (fun _ h => h))
      have BR6 := hid (BR5.out.kept k6' (fun _ h => h))
      have HB6 := hid (HB5.out.kept k6' (fun _ h => h))
      have HF6 := hid (HF5.out.kept k6' (fun _ h => h))
      have Q6 := hid (Q5.out.kept k6' (fun h => h))
      have K6 := hid (K5.out.trans k6' (fun _ _ h => h))
      clear k6 k6' BM5 BB5 BR5 HB5 HF5 Q5 K5 BQ5 VQ hqn ht1
      go_upto_region 11 with fail
      rw [show w6.alloc (.cells #[.int .i64 kk6, .slice y6 n6 d6] 24) = W6 from hW6.symm]
      clear hW6 hM6
      obtain ⟨i0, z0, hi, hz0, hz1, hz2, hz3⟩ := byte_info3
      have LL : Hid (0 + F.length ≤ maxLen ∧ (0 + F.length) * 1 ≤ 140737488355328 ∧ F.length + more.length ≤ maxLen ∧ (F.length + more.length) * 1 ≤ 140737488355328) := hid (by rw [HFL.out, HLb.out]; have := HN.out; unfold maxLen; omega)
      have FR : Hid (RowsSl bF 0 1 (W6.alloc (.cells #[] 5 (0, 0))) (.slice (some ⟨gb, 0, none⟩) n cb) F) := hid ((rows_by BR6.out).kept ((Kp.refl Nb W6).alloc _))
      have SZ : Hid (W6.heap.size ≤ (W6.alloc (.cells #[] 5 (0, 0))).heap.size) := hid ((Kp.refl Nb W6).alloc _).size
      go_wp2_with (at_builtin; refine wpList_append_rows (f := bF) (z := 0) (c := 1) rfl _ _ 22 rfl W6.heap.size 5 i0 z0 1 Try.underlying22 hi hz0 hz1 hz2 hz3 (by decide) _ 0 [] rfl (World.ownsRow_made W6 #[] 0 (Nat.le_refl _) (Nat.zero_le _) rfl) _ F rfl FR.out (fun q _ => rfl) (fun q _ u hu => by rw [List.mem_singleton.1 hu]; rfl) LL.out.1 LL.out.2.1 SZ.out ?_)
      intro v9 w9 hown hgrow
      have hk := ((Kp.refl Nb W6).alloc (.cells #[] 5)).grown hgrow (fun k hk h => by simp [Value.ownBlock] at hk; omega)
      have HO9 : Hid (w9.ownsRow W6.heap.size 5 1 v9 F.length (F.map (Value.int .u8))) := hid (by rw [flat_bytes] at hown; simpa only [Nat.zero_add, List.nil_append] using hown)
      have FR9 := hid ((rows_by HB6.out).kept hk)
      have K9 := hid hk
      clear hown hgrow hk FR
      obtain ⟨y9, c9, rfl⟩ := own_shape HO9.out
      go_wp2_with (at_builtin; refine wpList_append_rows (f := bF) (z := 0) (c := 1) rfl _ _ 22 rfl W6.heap.size 5 i0 z0 1 Try.underlying22 hi hz0 hz1 hz2 hz3 (by decide) _ _ _ rfl HO9.out _ more rfl FR9.out (fun q _ => rfl) (fun q _ u hu => by rw [List.mem_singleton.1 hu]; rfl) LL.out.2.2.1 LL.out.2.2.2 K9.out.size ?_)
      intro v10 w10 hown hgrow
      have hk := K9.out.grown hgrow (fun k hk h => by have := (row_cells HO9.out hk).1; omega)
      have BV : Hid (BySl Nb w10 v10 (F ++ more)) := hid (by
        rw [flat_bytes, ← List.map_append, ← List.length_append] at hown
        exact BySl.ofOwn hown (BFZ.out.append HB6.out.1) (fun _ _ _ h => h))
      have K10 := hid hk
      have LV : Hid ((F ++ more).length ≤ 3000) := hid (by rw [List.length_append, HFL.out, HLb.out]; have := HN.out; have := HNB.out; omega)
      obtain ⟨E11, hE11⟩ : ∃ e, (readF (F ++ more)).2.2 = e := ⟨_, rfl⟩
      have D11 : Hid ((E11 == 0) = ((Lb : Int) == 0)) := hid (by
        rw [← hE11, ← HLb.out]
        cases hm : more with
        | nil => rw [List.append_nil, RM.out.1]; rfl
        | cons x r =>
          have hmb := HB6.out.1
          rw [hm] at hmb
          rw [RM.out.2 _ hmb (by simp)]
          have : ((((x :: r).length : Nat) : Int) == 0) = false := by simp; omega
          rw [this]
          rfl)
      have HE11 := hid hE11
      clear hown hgrow hk HO9 FR9 K9 SZ LL hE11
      go_wp2_with fail
      refine (CRE.out _ _ _ E11 BV.out LV.out HE11.out).mono ?_
      rintro e w11 ⟨kk7, n7, y7, d7, rfl, k11⟩
      obtain ⟨M7, hM7⟩ : ∃ N, w11.heap.size = N := ⟨_, rfl⟩
      obtain ⟨W7, hW7⟩ : ∃ W, W = w11.alloc (.cells (frL kk7 (.slice y7 n7 d7)).toArray 24) := ⟨_, rfl⟩
      have k7' : Kp Nb W6 W7 := by rw [hW7]; exact (K10.out.trans k11 (fun _ _ h => h)).alloc _
      have BM7 := hid (BM6.out.kept k7' (fun h => h))
      have BB7 := hid (BB6.out.kept k7' (fun _ h => h))
      have BR7 := hid (BR6.out.kept k7' (fun _ h => h))
      have HB7 := hid (HB6.out.kept k7' (fun _ h => h))
      have HF7 := hid (HF6.out.kept k7' (fun _ h => h))
      have Q7 := hid (Q6.out.kept k7' (fun h => h))
      have K7 := hid (K6.out.trans k7' (fun _ _ h => h))
      clear k11 k7' BM6 BB6 BR6 HB6 HF6 Q6 K6 K10 BV LV HE11 hi hz0 hz1 hz2 hz3
      go_upto_region 12 with fail
      rw [show w11.alloc (.cells #[.int .i64 kk7, .slice y7 n7 d7] 24) = W7 from hW7.symm]
      clear hW7 hM7
      go_wp2_with fail
      have hs8n := hsn
      obtain ⟨T, hT⟩ : ∃ T, turnB F ((n : Int) - 1 - (s8 : Int)) x = T := ⟨_, rfl⟩
      have CTU : Hid (Calls Try.prog 18 #[.slice (some ⟨gb, 0, none⟩) n cb, .int .i64 ((n : Int) - 1 - (s8 : Int)), .int .u8 x] W7 fun e w' => ∃ v', e = .returned v' ∧ BySl Nb w' v' T ∧ Kp Nb W7 w') := hid (by rw [← hT]; exact fturn_any _ F _ x W7 BR7.out (by rw [HFL.out]; omega))
      have LT : Hid (T.length ≤ 3000) := hid (by rw [← hT, turnB_length, HFL.out]; omega)
      obtain ⟨E12, hE12⟩ : ∃ e, (readF T).2.2 = e := ⟨_, rfl⟩
      have D12 : Hid ((E12 == 0) = (x == 0)) := hid (by
        rw [← hE12, ← hT, RT.out s8 hsn]
        by_cases h0 : x = 0
        · rw [if_pos h0, h0]
        · rw [if_neg h0]
          have : (x == 0) = false := by simpa using h0
          rw [this]
          rfl)
      have HE12 := hid hE12
      clear hT hE12 hs8n
      refine CTU.out.mono ?_
      rintro e w12 ⟨v12, rfl, hb12, k12⟩
      have BT := hid hb12
      have K12 := hid k12
      clear hb12 k12 CTU
      go_wp2_with fail
      refine (CRE.out _ _ _ E12 BT.out LT.out HE12.out).mono ?_
      rintro e w13 ⟨kk8, n8, y8, d8, rfl, k13⟩
      obtain ⟨M8, hM8⟩ : ∃ N, w13.heap.size = N := ⟨_, rfl⟩
      obtain ⟨W8, hW8⟩ : ∃ W, W = w13.alloc (.cells (frL kk8 (.slice y8 n8 d8)).toArray 24) := ⟨_, rfl⟩
      have k8' : Kp Nb W7 W8 := by rw [hW8]; exact (K12.out.trans k13 (fun _ _ h => h)).alloc _
      have BM8 := hid (BM7.out.kept k8' (fun h => h))
      have BB8 := hid (BB7.out.kept k8' (fun _ h => h))
      have HF8 := hid (HF7.out.kept k8' (fun _ h => h))
      have Q8 := hid (Q7.out.kept k8' (fun h => h))
      have K8 := hid (K7.out.trans k8' (fun _ _ h => h))
      clear k13 k8' BM7 BB7 BR7 HB7 HF7 Q7 K7 K12 BT LT HE12 hsn ht2
      go_upto_region 13 with fail
      rw [show w13.alloc (.cells #[.int .i64 kk8, .slice y8 n8 d8] 24) = W8 from hW8.symm]
      clear hW8 hM8
      obtain ⟨D1, hD1⟩ : ∃ d, ((Lb : Int) == 0) = d := ⟨_, rfl⟩
      obtain ⟨D2, hD2⟩ : ∃ d, (x == 0) = d := ⟨_, rfl⟩
      have DA := hid hD1
      have DB := hid hD2
      have DC : Hid ((E11 == 0) = D1) := hid (D11.out.trans hD1)
      have DD : Hid ((E12 == 0) = D2) := hid (D12.out.trans hD2)
      clear hD1 hD2 D11 D12
      have e1 := DA.out
      have e2 := DB.out
      have e3 := DC.out
      have e4 := DD.out
      have p0 := Q8.out.cell 0
      have p1 := Q8.out.cell 1
      have p2 := BM8.out.cell 0
      have p3 := BM8.out.cell 1
      simp only [List.getElem?_cons_zero, List.getElem?_cons_succ] at p0 p1 p2 p3
      go_wp2_with fail
      refine (CSM.out _ _ _ BB8.out HF8.out).mono ?_
      rintro e w14 ⟨rfl, k14⟩
      have Q9 := hid (Q8.out.kept k14 (fun h => h))
      have K9 := hid (K8.out.trans k14 (fun _ _ h => h))
      clear k14 p0 p1 p2 p3 CSM
      have p1 := Q9.out.cell 1
      simp only [List.getElem?_cons_zero, List.getElem?_cons_succ] at p1
      go_wp2_with fail
      refine (CCO.out _).mono ?_
      rintro e w15 ⟨rfl, rfl⟩
      go_wp2
      go_ret
      exact ⟨rfl, K9.out⟩
    · have hrf : rightF k zs.length = false := by rw [HLf.out]; exact Bool.eq_false_iff.2 hr
      have CP : Hid (∀ w, BySl Nb w (.slice yf Lf df) zs → Calls Try.prog 13 #[frV k (.slice yf Lf df)] w fun e w' => e = .returned (.slice none 0 0) ∧ Kp Nb w w') := hid (fun w hv => fput_no k _ zs w hv hrf)
      have CR : Hid (∀ w, Calls Try.prog 12 #[frV k (.slice yf Lf df)] w fun e w' => e = .returned (.bool false) ∧ Kp Nb w w') := hid (fun w => by have h := fright_any k yf Lf df w; rw [Bool.eq_false_iff.2 hr] at h; exact h)
      clear hrf hr
      go_wp2_with fail
      refine (CP.out _ HF2.out).mono ?_
      rintro e w3 ⟨rfl, k3⟩
      have Q3 := hid (Q0.out.kept k3 (fun h => h))
      have K3 := hid (K2.out.trans k3 (fun _ _ h => h))
      have c0 := Q3.out.cell 0
      have c1 := Q3.out.cell 1
      simp only [List.getElem?_cons_zero, List.getElem?_cons_succ] at c0 c1
      clear k3
      go_wp2_with fail
      refine (CR.out _).mono ?_
      rintro e w4 ⟨rfl, k4⟩
      have K4 := hid (K3.out.trans k4 (fun _ _ h => h))
      clear k4 c0 c1
      go_wp2
      go_ret
      exact ⟨rfl, K4.out⟩

end Go.Proofs.Ytmgmghlflldepaa
