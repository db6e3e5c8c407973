/-
  Layer 10: walks of Right and Sum. Conditions: a mark has sixteen bytes; lists as long as an int tells.
-/
import Derived.Test.YtofjkaemakdmeaaCelD
namespace Go.Proofs.Ytofjkaemakdmeaa
open Go.RowKit

def crightB (c : Int) : Bool := decide (-1048576 ≤ c ∧ c ≤ 1048576)
set_option maxHeartbeats 400000 in
theorem cright_any (c : Int) (m : List Int) (k : Int) (w : World) :
    Calls Try.prog 19 #[cellV c m k] w fun e w' => e = .returned (.bool (crightB c)) ∧ Kp Nb w w' := by
  have c0 := cell_c (Blk.new w 26 (cellL c m k))
  have KW := hid ((Kp.refl Nb w).alloc (.cells (cellL c m k).toArray 26))
  rcases (show c < -1048576 ∨ (-1048576 ≤ c ∧ c ≤ 1048576) ∨ (-1048576 ≤ c ∧ 1048576 < c) by omega) with h | ⟨h1, h2⟩ | ⟨h1, h2⟩
  · have d1 : decide (-1048576 ≤ c) = false := decide_eq_false (by omega)
    have HE : Hid (crightB c = false) := hid (by unfold crightB; rw [decide_eq_false_iff_not]; omega)
    clear h
    go_enter Try.func19, Try.ntmps19
    go_wp2
    go_ret
    exact ⟨by rw [HE.out]; rfl, KW.out⟩
  · have d1 : decide (-1048576 ≤ c) = true := decide_eq_true h1
    have d2 : decide (c ≤ 1048576) = true := decide_eq_true h2
    have HE : Hid (crightB c = true) := hid (by unfold crightB; rw [decide_eq_true_iff]; omega)
    clear h1 h2
    go_enter Try.func19, Try.ntmps19
    go_wp2
    go_ret
    exact ⟨by rw [HE.out]; rfl, KW.out⟩
  · have d1 : decide (-1048576 ≤ c) = true := decide_eq_true h1
    have d2 : decide (c ≤ 1048576) = false := decide_eq_false (by omega)
    have HE : Hid (crightB c = false) := hid (by unfold crightB; rw [decide_eq_false_iff_not]; omega)
    clear h1 h2
    go_enter Try.func19, Try.ntmps19
    go_wp2
    go_ret
    exact ⟨by rw [HE.out]; rfl, KW.out⟩

/-- A list of cells, as (count, mark, check). -/
abbrev Cel := Int × List Int × Int
def celAt (cs : List Cel) (i : Nat) : Cel := cs[i]?.getD (0, List.replicate 16 0, 0)
def addC (x y : Cel) : Cel := (IntKind.i64.wrap (x.1 + y.1), layL x.2.1 y.2.1, bits .xor .u64 x.2.2 y.2.2)
def sumC (cs : List Cel) : Cel := cs.foldl addC (0, List.replicate 16 0, 0)
theorem sumC_snoc (cs : List Cel) (k : Nat) (h : k < cs.length) : sumC (cs.take (k + 1)) = addC (sumC (cs.take k)) (celAt cs k) := by
  unfold sumC celAt
  rw [List.take_succ_eq_append_getElem h, List.foldl_append, List.getElem?_eq_getElem h]
  rfl
theorem foldC_len (cs : List Cel) : ∀ x : Cel, x.2.1.length = 16 → (cs.foldl addC x).2.1.length = 16 := by
  induction cs with
  | nil => intro x h; exact h
  | cons y l ih => intro x _; exact ih _ (layK_length _ _ 16)
theorem sumC_len (cs : List Cel) : (sumC cs).2.1.length = 16 := foldC_len cs _ (by simp)
/-- A slice of cells. -/
def CelSl (w : World) (v : Value) (cs : List Cel) : Prop :=
  (∀ i, (celAt cs i).2.1.length = 16) ∧ (((∃ a cap, v = .slice a 0 cap) ∧ cs = []) ∨ ∃ blk off cap, v = .slice (some ⟨blk, off, none⟩) cs.length cap ∧ cs.length ≤ cap ∧ cap ≤ maxLen ∧
    ∀ i, i < cs.length → w.rangeAt blk (off + i * 18) (cellL (celAt cs i).1 (celAt cs i).2.1 (celAt cs i).2.2))
theorem range_kept {w w' : World} {B o : Nat} {vs : List Value} (h : w.rangeAt B o vs) (k : Kp Nb w w') : w'.rangeAt B o vs := fun j v hv => k.cell (h j v hv) (fun h => h)
theorem CelSl.kept {w w' : World} {v : Value} {cs : List Cel} (h : CelSl w v cs) (k : Kp Nb w w') : CelSl w' v cs := by
  refine ⟨h.1, ?_⟩
  rcases h.2 with h | ⟨blk, off, cap, rfl, hc, hm, hr⟩
  · exact .inl h
  · exact .inr ⟨blk, off, cap, rfl, hc, hm, fun i hi => range_kept (hr i hi) k⟩
theorem CelSl.shape {w : World} {v : Value} {cs : List Cel} (h : CelSl w v cs) : ∃ y d, v = .slice y cs.length d := by
  rcases h.2 with ⟨⟨a, c, rfl⟩, rfl⟩ | ⟨blk, off, cap, rfl, _⟩
  · exact ⟨a, c, rfl⟩
  · exact ⟨_, _, rfl⟩

def SumR (w : World) (cs : List Cel) (i : Value) (wr : World) : Prop :=
  ∃ k : Nat, k ≤ cs.length ∧ i = .int .i64 k ∧ Hid (Blk wr (w.heap.size + 1) 26 (cellL (sumC (cs.take k)).1 (sumC (cs.take k)).2.1 (sumC (cs.take k)).2.2)) ∧ Hid (Blk wr w.heap.size 26 (cellL 0 (List.replicate 16 0) 0)) ∧ Hid (Kp Nb w wr)
set_option maxRecDepth 100000 in
set_option maxHeartbeats 2000000 in
theorem csum_any (v : Value) (cs : List Cel) (w : World) (h : CelSl w v cs) :
    Calls Try.prog 16 #[v] w fun e w' => e = .returned (cellV (sumC cs).1 (sumC cs).2.1 (sumC cs).2.2) ∧ Kp Nb w w' := by
  obtain ⟨y, d, rfl⟩ := h.shape
  have H := hid h
  clear h
  obtain ⟨zs, hz⟩ : ∃ zs, zs = cellL 0 (List.replicate 16 0) 0 := ⟨_, rfl⟩
  obtain ⟨W, hW⟩ : ∃ W, W = (w.alloc (.cells zs.toArray 26)).alloc (.cells zs.toArray 26) := ⟨_, rfl⟩
  have H0 : Hid (Blk W w.heap.size 26 zs) := hid (by rw [hW]; exact (Blk.new w _ _).alloc _)
  have H1 : Hid (Blk W (w.heap.size + 1) 26 zs) := hid (by
    have h := Blk.new (w.alloc (.cells zs.toArray 26)) 26 zs
    simp only [World.size_alloc] at h
    rw [hW]
    exact h)
  have KW : Hid (Kp Nb w W) := hid (by rw [hW]; exact ((Kp.refl Nb w).alloc _).alloc _)
  rw [hz] at hW H0 H1
  clear hz
  go_enter Try.func16, Try.ntmps16
  go_wp2_with fail
  rw [show (w.alloc (.cells #[.int .i64 0, .int .u8 0, .int .u8 0, .int .u8 0, .int .u8 0, .int .u8 0, .int .u8 0, .int .u8 0, .int .u8 0, .int .u8 0, .int .u8 0, .int .u8 0, .int .u8 0, .int .u8 0, .int .u8 0, .int .u8 0, .int .u8 0, .int .u64 0] 26)).alloc (.cells #[.int .i64 0, .int .u8 0, .int .u8 0, .int .u8 0, .int .u8 0, .int .u8 0, .int .u8 0, .int .u8 0, .int .u8 0, .int .u8 0, .int .u8 0, .int .u8 0, .int .u8 0, .int .u8 0, .int .u8 0, .int .u8 0, .int .u8 0, .int .u64 0] 26) = W from hW.symm]
  clear hW
  go_loopw [8] (fun i wr => SumR w cs i wr) (fun i _ => cs.length - (intOf i).toNat)
  case atStart => exact ⟨0, by omega, rfl, H1, H0, KW⟩
  case round =>
    clear H0 H1 KW
    obtain ⟨k, hk, rfl, HA, HR, HK⟩ := hrel
    by_cases hlt : k < cs.length
    · have hC := (H.out.kept HK.out)
      have HN := hid hC.1
      rcases hC.2 with ⟨_, e0⟩ | ⟨blk, off, cap, e1, hc, hm, hcell⟩
      · rw [e0] at hlt
        exact absurd hlt (Nat.not_lt_zero _)
      · injection e1 with e1 _ e2
        subst e1 e2
        have HX := hid (hcell k hlt)
        unfold maxLen at hm
        have hsn := sumC_snoc cs k hlt
        have n1 := sumC_len (cs.take k)
        have n2 := HN.out k
        obtain ⟨x, hx⟩ : ∃ x, celAt cs k = x := ⟨_, rfl⟩
        obtain ⟨y, hy⟩ : ∃ y, sumC (cs.take k) = y := ⟨_, rfl⟩
        rw [hx, hy] at hsn
        rw [hx] at HX n2
        rw [hy] at HA n1
        have HSN := hid hsn
        have N1 := hid n1
        have N2 := hid n2
        clear hx hy hsn n1 n2 hcell
        obtain ⟨xc, xm, xk⟩ := x
        obtain ⟨yc, ym, yk⟩ := y
        dsimp only at HX HA N1 N2
        obtain ⟨d', hu, hd⟩ := cell_under
        have HU := hid hu
        have HI := hid (cell_infoL xc xm xk N2.out)
        have HJ := hid (cell_infoL yc ym yk N1.out)
        clear hu
        have CA : Hid (∀ w, Calls Try.prog 14 #[cellV yc ym yk, cellV xc xm xk] w fun e w' => e = .returned (cellV (IntKind.i64.wrap (yc + xc)) (layL ym xm) (bits .xor .u64 yk xk)) ∧ Kp Nb w w') := hid (fun w => cadd_any yc xc ym xm yk xk w N1.out N2.out)
        have N3 : Hid ((layL ym xm).length = 16) := hid (layK_length ym xm 16)
        have hsn : sumC (cs.take (k + 1)) = (IntKind.i64.wrap (yc + xc), layL ym xm, bits .xor .u64 yk xk) := HSN.out
        obtain ⟨s, hs⟩ : ∃ s, IntKind.i64.wrap (yc + xc) = s := ⟨_, rfl⟩
        obtain ⟨m3, hm3⟩ : ∃ m, layL ym xm = m := ⟨_, rfl⟩
        obtain ⟨z, hz⟩ : ∃ z, bits .xor .u64 yk xk = z := ⟨_, rfl⟩
        rw [hs, hm3, hz] at CA hsn
        rw [hm3] at N3
        have HS := hid hsn
        clear hs hm3 hz hsn HSN
        obtain ⟨W1, hW1⟩ : ∃ W1, W1 = (wr.alloc (.cells (cellL 0 (List.replicate 16 0) 0).toArray 26)).setCells wr.heap.size 0 (cellL xc xm xk) := ⟨_, rfl⟩
        have HZ5 := Blk.new wr 26 (cellL 0 (List.replicate 16 0) 0)
        have HB5 : Hid (Blk W1 wr.heap.size 26 (cellL xc xm xk)) := hid (by rw [hW1]; exact row_set HZ5 (by rw [cellL_length _ _ _ N2.out, cellL_length _ _ _ (by simp)]))
        have K1 : Hid (Kp Nb wr W1) := hid (by rw [hW1]; exact Kp.setCells (fun h => absurd h (Nat.lt_irrefl _)) _ 0 _ ((Kp.refl Nb wr).alloc _))
        have TH : Hid ((wr.alloc (.cells (cellL 0 (List.replicate 16 0) 0).toArray 26)).there wr.heap.size 0 (cellL xc xm xk).toArray.size) := hid (by simpa [cellL_length _ _ _ N2.out] using HZ5.there 0 18 (by rw [cellL_length _ _ _ (by simp)]; omega))
        have HI2 : Hid ((Try.prog.info? 26).map (·.size) = some (cellL xc xm xk).toArray.size) := hid (by simpa using HI.out)
        have HO := hid (all_oneCell_toArray (cellL_one xc xm xk))
        have HA1 := hid (HA.out.kept K1.out (fun h => h))
        have HR1 := hid (HR.out.kept K1.out (fun h => h))
        have HK1 := hid (HK.out.trans K1.out (fun _ _ h => h))
        clear HZ5
        go_upto_region 5 with (first
          | (refine wpList_load_mid (by rfl) 26 (.tmp 10) (by rfl) blk (off + k * 18) (by rfl) (cellL xc xm xk) d' HX.out HU.out hd HI.out ?_)
          | (refine wpList_store_mid (by rfl) 26 (.tmp 5) (.tmp 11) (by rfl) wr.heap.size 0 (cellL xc xm xk).toArray (by rfl) (by rfl) TH.out HI2.out HO.out ?_))
        rw [show (wr.alloc (.cells #[.int .i64 0, .int .u8 0, .int .u8 0, .int .u8 0, .int .u8 0, .int .u8 0, .int .u8 0, .int .u8 0, .int .u8 0, .int .u8 0, .int .u8 0, .int .u8 0, .int .u8 0, .int .u8 0, .int .u8 0, .int .u8 0, .int .u8 0, .int .u64 0] 26)).setCells wr.heap.size 0 (cellL xc xm xk) = W1 from hW1.symm]
        clear hW1 TH HI2 HO
        go_wp2_with (first
          | (refine wpList_load_mid (by rfl) 26 (.tmp 3) (by rfl) (w.heap.size + 1) 0 (by rfl) (cellL yc ym yk) d' (range_of HA1.out) HU.out hd HJ.out ?_)
          | (refine wpList_load_mid (by rfl) 26 (.tmp 5) (by rfl) wr.heap.size 0 (by rfl) (cellL xc xm xk) d' (range_of HB5.out) HU.out hd HI.out ?_))
        refine (CA.out _).mono ?_
        rintro e w2 ⟨rfl, k2⟩
        have HA2 := HA1.out.kept k2 (fun h => h)
        have HR2 := HR1.out.kept k2 (fun h => h)
        have HK2 := hid (HK1.out.trans k2 (fun _ _ h => h))
        have TH2 : Hid (w2.there (w.heap.size + 1) 0 (cellL s m3 z).toArray.size) := hid (by simpa [cellL_length _ _ _ N3.out] using HA2.there 0 18 (by rw [cellL_length _ _ _ N1.out]; omega))
        have HI3 : Hid ((Try.prog.info? 26).map (·.size) = some (cellL s m3 z).toArray.size) := hid (by rw [show (cellL s m3 z).toArray.size = 18 from by rw [List.size_toArray]; exact cellL_length _ _ _ N3.out]; exact cell_info)
        have HO2 := hid (all_oneCell_toArray (cellL_one s m3 z))
        have HA3 : Hid (Blk (w2.setCells (w.heap.size + 1) 0 (cellL s m3 z)) (w.heap.size + 1) 26 (cellL (sumC (cs.take (k + 1))).1 (sumC (cs.take (k + 1))).2.1 (sumC (cs.take (k + 1))).2.2)) := hid (by rw [HS.out]; exact row_set HA2 (by rw [cellL_length _ _ _ N3.out, cellL_length _ _ _ N1.out]))
        have HR3 : Hid (Blk (w2.setCells (w.heap.size + 1) 0 (cellL s m3 z)) w.heap.size 26 (cellL 0 (List.replicate 16 0) 0)) := hid (HR2.kept (Kp.setCells (S := Jb (w.heap.size + 1)) (fun _ => show w.heap.size + 1 = w.heap.size + 1 from rfl) _ 0 _ (Kp.refl _ w2)) (fun h => by have h' : w.heap.size = w.heap.size + 1 := h; omega))
        have HK3 : Hid (Kp Nb w (w2.setCells (w.heap.size + 1) 0 (cellL s m3 z))) := hid (Kp.setCells (fun h => by omega) _ 0 _ HK2.out)
        clear k2 HA2 HR2
        go_wp2_with (refine wpList_store_mid (by rfl) 26 (.tmp 3) (.tmp 14) (by rfl) (w.heap.size + 1) 0 (cellL s m3 z).toArray (by rfl) (by rfl) TH2.out HI3.out HO2.out ?_)
        go_roundw
        case rel => exact ⟨k + 1, by omega, by go_num, HA3, HR3, HK3⟩
        case measure => simp [intOf]; omega
    · obtain rfl : k = cs.length := by omega
      have hy : sumC (cs.take cs.length) = sumC cs := by rw [List.take_length]
      rw [hy] at HA
      have N1 := hid (sumC_len cs)
      clear hy
      obtain ⟨y, hy⟩ : ∃ y, sumC cs = y := ⟨_, rfl⟩
      rw [hy] at HA N1
      have HY := hid hy
      clear hy
      obtain ⟨yc, ym, yk⟩ := y
      dsimp only at HA N1
      obtain ⟨d', hu, hd⟩ := cell_under
      have HU := hid hu
      have HJ := hid (cell_infoL yc ym yk N1.out)
      clear hu
      have TH : Hid (wr.there w.heap.size 0 (cellL yc ym yk).toArray.size) := hid (by simpa [cellL_length _ _ _ N1.out] using HR.out.there 0 18 (by rw [cellL_length _ _ _ (by simp)]; omega))
      have HI3 : Hid ((Try.prog.info? 26).map (·.size) = some (cellL yc ym yk).toArray.size) := hid (by rw [show (cellL yc ym yk).toArray.size = 18 from by rw [List.size_toArray]; exact cellL_length _ _ _ N1.out]; exact cell_info)
      have HO2 := hid (all_oneCell_toArray (cellL_one yc ym yk))
      have HF1 : Hid (Blk (wr.setCells w.heap.size 0 (cellL yc ym yk)) w.heap.size 26 (cellL yc ym yk)) := hid (row_set HR.out (by rw [cellL_length _ _ _ N1.out, cellL_length _ _ _ (by simp)]))
      have HF2 : Hid (Kp Nb w (wr.setCells w.heap.size 0 (cellL yc ym yk))) := hid (Kp.setCells (fun h => by omega) _ 0 _ HK.out)
      go_wp2_with (first
        | (refine wpList_load_mid (by rfl) 26 (.tmp 3) (by rfl) (w.heap.size + 1) 0 (by rfl) (cellL yc ym yk) d' (range_of HA.out) HU.out hd HJ.out ?_)
        | (refine wpList_store_mid (by rfl) 26 (.tmp 2) (.tmp 16) (by rfl) w.heap.size 0 (cellL yc ym yk).toArray (by rfl) (by rfl) TH.out HI3.out HO2.out ?_))
      refine bodyPost_ret (v := cellV yc ym yk) (results_cell rfl _ w.heap.size (by rfl) _ (cell_loadVar N1 HF1)) rfl ⟨by rw [HY.out], HF2.out⟩

end Go.Proofs.Ytofjkaemakdmeaa
