/-
  Layer 22: Add: each row and the other's are added. Conditions: rows of 64 bits.
-/
import Derived.Test.YtjipcmhknikcgaaDoorLgG
import Derived.Test.YtjipcmhknikcgaaDoorGhostR
namespace Go.Proofs.YtjipcmhknikcgaaDoor
open Go.RowKit Go.Shelf
attribute [local go_sem] Oper.semAt_some

theorem WtS.next {W : World} {B : Nat} {rs rs' : List RwQ} {b : Bool} {w w' : World} (h : WtS W B rs rs' b w) (k : Kp Nb w w') : WtS W B rs rs' b w' :=
  ⟨h.kp.trans k (fun _ _ h => h.elim), fun e => (h.l0 e).kept k (fun h => h), fun e => (h.l1 e).kept k (fun h => h)⟩
/-- A box of one pointer. -/
theorem box_load {w : World} {M : Nat} {v : Value} (h : Blk w M 24 [v]) : (Instr.loadAt 24 (.pointer (some ⟨M, 0, none⟩))).run Tryd.prog w = .ok v w := by
  have hc : w.cell? ⟨M, 0, none⟩ = some v := h.cell 0
  go_simp
/-- A row more. -/
def addStep (os r : List RwQ) (x : Nat) : List RwQ := setK r ((x : Int) + 1) (sumR (rowOf r ((x : Int) + 1)) (rowAt os x))
def addT (os r : List RwQ) (pre : List Nat) : List RwQ := pre.foldl (addStep os) r
theorem addT_snoc (os r : List RwQ) (pre : List Nat) (x : Nat) : addT os r (pre ++ [x]) = addStep os (addT os r pre) x := by simp [addT]
def AddI (w : World) (B M : Nat) (os rs : List RwQ) (pre : List Nat) (W : World) : Prop := (LgAt W B (addT os rs pre) ∧ Blk W M 24 [.pointer (some ⟨B, 0, none⟩)]) ∧ Kp (Jb B) w W
theorem addI_own (w : World) (Bl M : Nat) (os rs : List RwQ) {B : Nat} (hB : w.heap.size ≤ B) : OwnFrom B (AddI w Bl M os rs) :=
  OwnFrom.and (Own.from (fun _ _ _ _ hs hg hr => ⟨⟨blk_turn hs.1.blk hg hr, hs.1.len, hs.1.ok⟩, blk_turn hs.2 hg hr⟩) _) (fun _ _ _ _ hs hg hr => hs.grown hg (fun k e h => by have := (hr k e).1; omega))
/-- A round's own row, apart from the ledger. -/
def AxA (Z : Nat) (rs : List RwQ) (fr : Nat → Act) (x : Nat) (a' : Act) (W : World) : Prop := ∃ N, Z ≤ N ∧ a' = fr N ∧ Blk W N 29 (rL (rowAt rs x))
theorem axA_own (Z : Nat) (rs : List RwQ) (fr : Nat → Act) (x : Nat) (a' : Act) {B : Nat} : OwnFrom B (fun (_ : Unit) W => AxA Z rs fr x a' W) :=
  Own.from (fun _ A W row hs hg hr => by
    obtain ⟨N, h1, h2, h3⟩ := hs
    exact ⟨N, h1, h2, blk_turn h3 hg hr⟩) _

set_option maxRecDepth 100000 in
set_option maxHeartbeats 4000000 in
theorem add_in (n : Nat) (hn : 3 ≤ n) (B : Nat) (rs : List RwQ) (p : Option Nat) (os : List RwQ) (w : World) (hl : LgAt w B rs) (h : LgO w p os) :
    CallsIn Fence.wide n Tryd.prog 10 #[.pointer (some ⟨B, 0, none⟩), lgP p] w fun e w' => e = .returned (.tuple #[]) ∧ LgAt w' B (addT os rs (nzT os 14)) ∧ Kp (Jb B) w w' := by
  have h1 : 1 ≤ n := by omega
  have OK := hid h.len
  have HL := hid hl
  have HBW := hid hl.blk.lt
  have CRW : Hid (∀ wx, Kp Nb w wx → Calls Tryd.prog 22 #[lgP p] wx fun e w' => ∃ Ba, e = .returned (.func (.func 30) #[] #[.pointer (some ⟨Ba, 0, none⟩)]) ∧ ArAt w' Ba os ∧ wx.heap.size ≤ Ba ∧ Kp Nb wx w') := hid (fun wx k => lrows_any p os wx (h.kept k (fun _ _ h => h)))
  obtain ⟨P, hP⟩ : ∃ P, lgP p = P := ⟨_, rfl⟩
  rw [hP] at CRW ⊢
  clear h hP hl
  refine callsIn_of_wp_marks Tryd.func10 rfl trivial ?_ rfl
  simp only [Tryd.ntmps10, List.size_toArray, List.length_cons, List.length_nil, Nat.reduceAdd, Nat.reduceSub, Array.replicate_succ, Array.replicate_zero, List.push_toArray, List.append_toArray, List.nil_append, List.cons_append]
  gi_wp2_with (refine ⟨trivial, ?_⟩; gi_at_call 22; refine (callsIn_wide.2 (CRW.out _ ((Kp.refl Nb w).alloc _))).mono ?_; rintro r W0 ⟨Ba, rfl, har, -, k0⟩)
  obtain ⟨M, hM⟩ : ∃ M, w.heap.size = M := ⟨_, rfl⟩
  have HAR := hid har
  have HB : Hid (Kp Nb w W0) := hid (((Kp.refl Nb w).alloc _).trans k0 (fun _ _ h => h))
  have hbx : Blk (w.alloc (.cells #[.pointer (some ⟨B, 0, none⟩)] 24)) M 24 [.pointer (some ⟨B, 0, none⟩)] := by rw [← hM]; exact Blk.new w _ _
  have HI0 : Hid (AddI w B M os rs [] W0) := hid ⟨⟨HL.out.kept HB.out (fun h => h), hbx.kept k0 (fun h => h)⟩, HB.out.mono (fun _ _ h => h.elim)⟩
  have HZ : Hid (M + 1 ≤ W0.heap.size ∧ w.heap.size = M ∧ B < M) := hid ⟨by have := (hbx.kept k0 (fun h => h)).lt; omega, hM, by have := HBW.out; omega⟩
  rw [hM]
  clear har hbx k0 CRW hM
  refine wpIn_rangeW rfl h1 (gf := 30) (lb := #[.pointer (some ⟨Ba, 0, none⟩)]) rfl trivial (enters_of Tryd.func30 (by kernel_rfl) rfl)
    (rows_seq (n - 1) (by omega) Ba os W0 HAR.out) kp0_t (fun _ _ _ _ _ _ _ => trivial) (fun xs => static_ownW _) (fun xs => static_ownW _) (Below.refl _ _) (fun x => rfl)
    (AddI w B M os rs) (fun _ _ _ => False) (addI_own w B M os rs HB.out.size) (fun _ _ _ _ _ hs _ _ => hs) HI0.out
    (fun x a' W => AxA (M + 1) os (fun N => { tmps := #[.pointer (some ⟨B, 0, none⟩), P, .pointer (some ⟨M, 0, none⟩), undef, .int .i64 ((x : Int) + 1), .pointer (some ⟨N, 0, none⟩), P, .func (.func 30) #[] #[.pointer (some ⟨Ba, 0, none⟩)], .int .i64 ((x : Int) + 1), rV (rowAt os x), undef, undef, undef, undef, undef, undef, undef, undef], defers := [] }) x a' W)
    (fun x a' => axA_own _ _ _ x a') ?assign ?body ?done ?stop
  case assign =>
    rintro l pre x W R hI hR
    have HI := hid hI
    have HR := hid hR
    obtain ⟨W5, s1, s2, s3⟩ := rw_fresh W (rowAt os x)
    have ST : Hid ((Instr.storeAt 29 (.pointer (some ⟨W.heap.size, 0, none⟩)) (rV (rowAt os x))).run Tryd.prog (W.alloc (.cells #[.int .u64 0, .int .u64 0] 29)) = .ok () W5) := hid s1
    have S2 := hid s2
    have S3 := hid s3
    have HSZ : Hid (M + 1 ≤ W.heap.size) := hid (by have := hI.1.2.lt; omega)
    clear hI hR s1 s2 s3
    gi_wp2_with (first
      | (refine wpListIn_storeL rfl 29 (.tmp 5) (.tmp 9) rfl (p := ⟨W.heap.size, 0, none⟩) (by rfl) (v := rV (rowAt os x)) (by rfl) ST.out ?_)
      | (refine wpIn_store_at 29 (.tmp 5) (.tmp 9) rfl (p := ⟨W.heap.size, 0, none⟩) (by rfl) (v := rV (rowAt os x)) (by rfl) ST.out ?_))
    exact HR.out _ _ (S3.out.keepsNb _) trivial ⟨⟨HI.out.1.1.kept S3.out (fun h => h), HI.out.1.2.kept S3.out (fun h => h)⟩, HI.out.2.trans S3.out (fun _ _ h => h.elim)⟩ ⟨_, HSZ.out, rfl, S2.out⟩
  case body =>
    rintro l pre x a' W hI ⟨N, hN, rfl, hx⟩ hlt
    obtain ⟨⟨hl, hbx⟩, hkk⟩ := hI
    have HBX := hid hbx
    have HK0 := hid hkk
    have HNX := hid hx
    have HNM : Hid (¬ Jb B M ∧ ¬ Jb B N) := hid ⟨(fun e => by have : M = B := e; have := HZ.out; omega), (fun e => by have : N = B := e; have := HZ.out; omega)⟩
    obtain ⟨y, hy⟩ : ∃ y, rowAt os x = y := ⟨_, rfl⟩
    obtain ⟨rs', hrs⟩ : ∃ r, addT os rs pre = r := ⟨_, rfl⟩
    obtain ⟨q, hq⟩ : ∃ q, rowOf rs' ((x : Int) + 1) = q := ⟨_, rfl⟩
    obtain ⟨z, hz⟩ : ∃ z, sumR q y = z := ⟨_, rfl⟩
    obtain ⟨rz, hrz⟩ : ∃ r, setK rs' ((x : Int) + 1) z = r := ⟨_, rfl⟩
    rw [hrs] at hl
    rw [hy] at HNX ⊢
    have HLL := hid hl
    have OQ : RwOk q := by rw [← hq]; exact rowOf_ok hl.ok _
    have OY : RwOk y := by rw [← hy]; exact rowAt_ok OK.out.2 x
    have OZ : RwOk z := by rw [← hz]; exact sumR_ok OQ OY
    have CR : Hid (∀ w, LgAt w B rs' → Calls Tryd.prog 13 #[.pointer (some ⟨B, 0, none⟩), .int .i64 ((x : Int) + 1)] w fun e w' => e = .returned (rV q) ∧ Kp Nb w w') := hid (fun w h => by rw [← hq]; exact row_any B rs' _ w h)
    have CS : Hid (∀ w, Calls Tryd.prog 23 #[rV q, rV y] w fun e w' => e = .returned (rV z) ∧ Kp Nb w w') := hid (fun w => by rw [← hz]; exact lsum_any q y w OQ OY)
    have CW : Hid (∀ w, LgAt w B rs' → Calls Tryd.prog 8 #[.pointer (some ⟨B, 0, none⟩), .int .i64 ((x : Int) + 1), rV z] w fun e w' => e = .returned (.bool (knd ((x : Int) + 1))) ∧ LgAt w' B rz ∧ Kp (Jb B) w w') := hid (fun w h => by rw [← hrz]; exact with_any B rs' _ z w h OZ)
    have HSN : Hid (addT os rs (pre ++ [x]) = rz) := hid (by rw [addT_snoc, hrs]; unfold addStep; rw [hq, hy, hz, hrz])
    clear hl hbx hkk hx hy hrs hq hz hrz OQ OY OZ hN
    gi_wp2_with fail
    refine region_ghostR (by kernel_rfl) (g0 := (() : Unit)) [none, none, none, none, none, none, none, none, none, none, some 0, some 1, some 2, some 3, some 4, some 5, some 6, some 7] [[(2, none)], [(4, none)], [(2, none)], [(4, none)], [(12, some 2), (13, some 3)], [(5, none)], [(14, some 4), (15, some 5)], [(10, some 0), (11, some 1), (16, some 6)]] [some 10, some 11, some 12, some 13, some 14, some 15, some 16, some 17] (fun g => [.pointer (some ⟨B, 0, none⟩), .int .i64 ((x : Int) + 1), .pointer (some ⟨B, 0, none⟩), .int .i64 ((x : Int) + 1), rV q, rV y, rV z, .bool (knd ((x : Int) + 1))]) [7] (fun (bs : List Bool) (_ : Unit) wq => Hid (WtS W B rs' rz (bs.getD 0 false) wq)) (by kernel_rfl) (by kernel_rfl) (fun g => by kernel_rfl) (by kernel_rfl) ?hS (GFrom.all (n := 8) (by kernel_rfl) ?hstep) ?hend
    case hstep =>
      refine GFrom.cons (GStep.val _ rfl rfl _ rfl (fun g => .pointer (some ⟨B, 0, none⟩)) (fun _ => rfl) (fun _ => trivial) (fun bs g ev wq hS he hr => ?_)) ?_
      · have r0 : ev (.tmp 2) = .pointer (some ⟨M, 0, none⟩) := hr (2, none) (by simp); have hk := he.1; clear hr he
        exact exec_loadL rfl r0 (box_load (HBX.out.kept hS.out.kp (fun h => HNM.out.1 h)))
      refine GFrom.cons (GStep.val _ rfl rfl _ rfl (fun g => .int .i64 ((x : Int) + 1)) (fun _ => rfl) (fun _ => trivial) (fun bs g ev wq hS he hr => ?_)) ?_
      · have r0 : ev (.tmp 4) = .int .i64 ((x : Int) + 1) := hr (4, none) (by simp); have hk := he.1; clear hr he
        go_simp
      refine GFrom.cons (GStep.val _ rfl rfl _ rfl (fun g => .pointer (some ⟨B, 0, none⟩)) (fun _ => rfl) (fun _ => trivial) (fun bs g ev wq hS he hr => ?_)) ?_
      · have r0 : ev (.tmp 2) = .pointer (some ⟨M, 0, none⟩) := hr (2, none) (by simp); have hk := he.1; clear hr he
        exact exec_loadL rfl r0 (box_load (HBX.out.kept hS.out.kp (fun h => HNM.out.1 h)))
      refine GFrom.cons (GStep.val _ rfl rfl _ rfl (fun g => .int .i64 ((x : Int) + 1)) (fun _ => rfl) (fun _ => trivial) (fun bs g ev wq hS he hr => ?_)) ?_
      · have r0 : ev (.tmp 4) = .int .i64 ((x : Int) + 1) := hr (4, none) (by simp); have hk := he.1; clear hr he
        go_simp
      refine GFrom.cons (GStep.callm _ rfl _ rfl (fun _ => trivial) 13 (fun g => #[.pointer (some ⟨B, 0, none⟩), .int .i64 ((x : Int) + 1)]) (fun bs g ev wq hS he hr => ?_) (fun L g wq hL hd hcl hS => ?_)) ?_
      · have r0 : ev (.tmp 12) = .pointer (some ⟨B, 0, none⟩) := hr (12, some 2) (by simp); have r1 : ev (.tmp 13) = .int .i64 ((x : Int) + 1) := hr (13, some 3) (by simp); have hk := he.1; have hf := he.2; clear hr he
        go_simp
      · have h7 : L 7 = false := by
          cases h : L 7 with
          | false => rfl
          | true =>
            have h6 := hcl 7 _ rfl h 6 (by kernel_rfl)
            have h4 := hcl 6 _ rfl h6 4 (by kernel_rfl)
            rw [hL] at h4; cases h4
        exact (CR.out wq (hS.out.l0 (by simp [bitsAt, h7]))).mono fun e w' ⟨h1, h2⟩ => ⟨_, (), h1, rfl, fun _ _ => rfl, by rw [bitsAt_upd (by rfl)]; exact hid (hS.out.next h2)⟩
      refine GFrom.cons (GStep.val _ rfl rfl _ rfl (fun g => rV y) (fun _ => rfl) (fun _ => trivial) (fun bs g ev wq hS he hr => ?_)) ?_
      · have r0 : ev (.tmp 5) = .pointer (some ⟨N, 0, none⟩) := hr (5, none) (by simp); have hk := he.1; clear hr he
        exact exec_loadL rfl r0 (rw_load0 (HNX.out.kept hS.out.kp (fun h => HNM.out.2 h)))
      refine GFrom.cons (GStep.call _ rfl rfl _ rfl (fun g => rV z) (fun _ => rfl) (fun _ => trivial) 23 (fun g => #[rV q, rV y]) (fun bs g ev wq hS he hr => ?_) (fun L g wq hd hL hS => ?_)) ?_
      · have r0 : ev (.tmp 14) = rV q := hr (14, some 4) (by simp); have r1 : ev (.tmp 15) = rV y := hr (15, some 5) (by simp); have hk := he.1; have hf := he.2; clear hr he
        go_simp
      · exact (CS.out wq).mono fun e w' ⟨h1, h2⟩ => ⟨h1, hid (hS.out.next h2)⟩
      refine GFrom.cons (GStep.callm _ rfl _ rfl (fun _ => trivial) 8 (fun g => #[.pointer (some ⟨B, 0, none⟩), .int .i64 ((x : Int) + 1), rV z]) (fun bs g ev wq hS he hr => ?_) (fun L g wq hL hd hcl hS => ?_)) ?_
      · have r0 : ev (.tmp 10) = .pointer (some ⟨B, 0, none⟩) := hr (10, some 0) (by simp); have r1 : ev (.tmp 11) = .int .i64 ((x : Int) + 1) := hr (11, some 1) (by simp); have r2 : ev (.tmp 16) = rV z := hr (16, some 6) (by simp); have hk := he.1; have hf := he.2; clear hr he
        go_simp
      · exact (CW.out wq (hS.out.l0 (by simp [bitsAt, hL]))).mono fun e w' ⟨h1, h2, h3⟩ => ⟨_, (), h1, rfl, fun _ _ => rfl, hid ⟨hS.out.kp.trans h3 (fun _ _ h => h), (fun e => by simp [bitsAt, upd] at e), fun _ => h2⟩⟩
      exact GFrom.nil
    case hS => exact hid ⟨(Kp.refl (Jb B) W).drew, fun _ => HLL.out.kept (Kp.refl Nb W).drew (fun h => h), (fun e => by cases e)⟩
    case hend =>
      intro u wy hy
      have P1 := hy.out.l1 rfl
      have K9 := hy.out.kp
      refine ⟨?_, trivial, ⟨⟨by rw [HSN.out]; exact P1, ?_⟩, ?_⟩⟩
      · exact K9.keepsFrom _ (fun i hi => by cases hi; exact ⟨_, _, _, HLL.out.blk⟩)
      · exact HBX.out.kept K9 HNM.out.1
      · exact HK0.out.trans K9 (fun _ _ h => h)
  case done =>
    rintro D xs W hD rfl hI hK
    have HI := hid hI
    have HK := hid hK
    have HD := hid hD
    clear hI hK hD
    gi_wp2
    refine ⟨by simp, .inl ⟨_, _, rfl, run_takeDeferred HK.out, ?_⟩⟩
    have hbd : B ≠ D := by have := HZ.out; have := HD.out; omega
    exact ⟨_, results_none rfl _ _ _, rfl, ⟨HI.out.1.1.blk.putObj hbd, HI.out.1.1.len, HI.out.1.1.ok⟩, HI.out.2.putNew (by have := HZ.out; have := HD.out; omega) _⟩
  case stop =>
    rintro D c pre W _ _ h _
    exact h.elim

theorem ladd_any (B : Nat) (rs : List RwQ) (p : Option Nat) (os : List RwQ) (w : World) (hl : LgAt w B rs) (h : LgO w p os) : Calls Tryd.prog 10 #[.pointer (some ⟨B, 0, none⟩), lgP p] w fun e w' => e = .returned (.tuple #[]) ∧ LgAt w' B (addT os rs (nzT os 14)) ∧ Kp (Jb B) w w' :=
  callsIn_wide.1 (add_in 3 (Nat.le_refl _) B rs p os w hl h)

end Go.Proofs.YtjipcmhknikcgaaDoor
