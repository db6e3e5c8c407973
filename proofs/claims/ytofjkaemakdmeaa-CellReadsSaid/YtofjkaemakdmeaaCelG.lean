/-
  Layer 10: the walk of Get (under way). Condition: fewer than 2^47 bytes.
-/
import Derived.Test.YtofjkaemakdmeaaCelF
import Derived.Test.YtofjkaemakdmeaaEyeOn
import Derived.Laws.IdiomCopy
import Derived.Deep.RegionHeld3
namespace Go.Proofs.Ytofjkaemakdmeaa
open Go.RowKit

theorem under_bytes : Try.prog.underlying 40 = some (.slice 5) := Try.underlying40
theorem size_u8 : (Try.prog.info? 5).map (·.size) = some 1 := by kernel_rfl
/-- Bytes copied into a block, from offset o on: all that there are. -/
theorem step_copy_blk {S : Nat → Prop} {ops : Array Oper} {o : Oper} {a : Act} {w : World} {K : Act → World → Prop} {Q : Exit → Act → World → Prop} {E : Prop} (hgd : o.guard = none) (d s : Operand)
    (ho : o.op = .call { callee := .builtin .copy, args := #[d, s], argTypes := #[40, 40] }) (C off n cap t : Nat) (vs : List Value) (v : Value) (ys : List Int) (hd : a.eval d = .slice (some ⟨C, off, none⟩) n cap) (hs : a.eval s = v)
    (hC : Blk w C t vs) (hv : BySl S w v ys) (hn : ys.length ≤ n) (hfit : off + ys.length ≤ vs.length)
    (h : ∀ w', Blk w' C t (vs.take off ++ markL ys ++ vs.drop (off + ys.length)) → Kp (Jb C) w w' → K (a.put o.dst (goInt ys.length)) w') :
    if Region.wanted o (yielded ops a.tmps) = true then Oper.wp Try.prog o a w K Q else E := by
  have hw : Region.wanted o (yielded ops a.tmps) = true := by simp [Region.wanted, hgd]
  rw [if_pos hw]
  unfold Oper.wp
  rcases hv.2 with ⟨⟨x, c, rfl⟩, rfl⟩ | ⟨blk, of', cap', rfl, hc, hm, hb, -⟩
  · have hrun := run_copy_none (P := Try.prog) w 40 40 o.type 5 (some ⟨C, off, none⟩) x n cap 0 c under_bytes size_u8 (by simp)
    simp [execOp, ho, resolve, invoke, builtin, hd, hs, hrun, Result.andThen]
    refine h w ?_ (Kp.refl _ _)
    simpa [markL] using hC
  · have hsrc : ∀ j u, (markL ys)[j]? = some u → w.cell? ((⟨blk, of', none⟩ : Addr).add j) = some u := fun j u hj => by
      have hjl : j < ys.length := by have := (List.getElem?_eq_some_iff.1 hj).1; rw [markL_length] at this; exact this
      rw [Addr.add_mid, hb j hjl, ← markL_get ys j hjl]
      exact hj
    have th := hC.there off ys.length hfit
    have hrun := run_copy_cells (P := Try.prog) w 40 40 o.type 5 C off n cap ⟨blk, of', none⟩ ys.length cap' (markL ys) under_bytes size_u8 (by rw [markL_length]; exact (Nat.min_eq_left hn).symm) hsrc
      (fun j hj => (th j (by rw [markL_length] at hj; exact hj)).1) (fun j hj => (th j (by rw [markL_length] at hj; exact hj)).2) (markL_one ys)
    simp [execOp, ho, resolve, invoke, builtin, hd, hs, hrun, Result.andThen]
    rw [markL_length]
    refine h _ ?_ (Kp.setCells (S := Jb C) (fun _ => show C = C from rfl) _ off w (Kp.refl _ _))
    have h2 := hC.setCells (markL ys) off w vs (by rw [markL_length]; exact hfit)
    rw [markL_length] at h2
    exact h2
theorem build_count (c : Int) (w : World) : (Instr.build 26 #[(0, .int .i64 c)]).run Try.prog w = .ok (cellV c (List.replicate 16 0) 0) w := run_build w 26 _ _ (by kernel_rfl)

/-- A mark of the bytes that came: sixteen, or none. -/
def markOf (ys : List Int) : List Int := ys ++ (List.replicate 16 0).drop ys.length
theorem markOf_length (ys : List Int) (h : ys.length ≤ 16) : (markOf ys).length = 16 := by unfold markOf; simp; omega
theorem fixN_le (zs : List Int) (e n : Int) (hn : 0 ≤ n) : ((fixN zs e n).1.length : Int) ≤ n := by
  unfold fixN
  split
  · simpa using hn
  · split
    · simpa using hn
    · split
      · simpa using hn
      · simp; omega
theorem cell_copied (c : Int) (ys : List Int) (h : ys.length ≤ 16) (k : Int) : (cellL c (List.replicate 16 0) k).take 1 ++ markL ys ++ (cellL c (List.replicate 16 0) k).drop (1 + ys.length) = cellL c (markOf ys) k := by
  unfold cellL markOf
  rw [List.take_succ_cons, List.take_zero, Nat.add_comm 1, List.drop_succ_cons]
  have e : (markL (List.replicate 16 0) ++ [Value.int .u64 k]).drop ys.length = markL ((List.replicate 16 0).drop ys.length) ++ [Value.int .u64 k] := by
    rw [List.drop_append_of_le_length (by rw [markL_length]; simpa using h)]
    unfold markL
    rw [List.map_drop]
  rw [e]
  unfold markL
  simp [List.map_append]

theorem cell_set17 (c : Int) (m : List Int) (k k' : Int) (h : m.length = 16) : (cellL c m k).set 17 (.int .u64 k') = cellL c m k' := by
  obtain ⟨m0, m1, m2, m3, m4, m5, m6, m7, m8, m9, m10, m11, m12, m13, m14, m15, rfl⟩ := sixteen m h
  rfl
/-- A check out of bytes. -/
def chkF (bs : List Int) : Int := bs.foldl (fun k x => bits .or .u64 (IntKind.u64.wrap (k * 256)) x) 0
theorem chkF_snoc (bs : List Int) (j : Nat) (h : j < bs.length) : chkF (bs.take (j + 1)) = bits .or .u64 (IntKind.u64.wrap (chkF (bs.take j) * 256)) (bs[j]?.getD 0) := by
  unfold chkF
  rw [List.take_succ_eq_append_getElem h, List.foldl_append, List.getElem?_eq_getElem h]
  rfl
def GetR (w5 : World) (C : Nat) (c : Int) (mk bs : List Int) (i : Value) (wr : World) : Prop :=
  ∃ j : Nat, j ≤ bs.length ∧ i = .int .i64 j ∧ Hid (Blk wr C 26 (cellL c mk (chkF (bs.take j)))) ∧ Hid (Kp (Jb C) w5 wr)
def zeroC : Cel := (0, List.replicate 16 0, 0)
/-- What Get answers, what is left, the error. -/
def getOf (c : Int) (f1 : List Int) (g : List Int × List Int × Int) : Cel × List Int × Int :=
  if crightB c = true then (if g.2.2 = 0 then (c, markOf f1, chkF g.1) else zeroC, g.2.1, g.2.2) else (zeroC, failS g.2.1 g.2.2 12, failE g.2.2 12)
def getC (zs : List Int) : Cel × List Int × Int :=
  getOf (zagI (readN zs 0 18446744073709551615).1) (fixN (readN zs 0 18446744073709551615).2.1 (readN zs 0 18446744073709551615).2.2 16).1
    (fixN (fixN (readN zs 0 18446744073709551615).2.1 (readN zs 0 18446744073709551615).2.2 16).2.1 (fixN (readN zs 0 18446744073709551615).2.1 (readN zs 0 18446744073709551615).2.2 16).2.2 8)
def GetPost (w : World) (B : Nat) (R : Cel × List Int × Int) (e : Ending) (w' : World) : Prop := e = .returned (cellV R.1.1 R.1.2.1 R.1.2.2) ∧ EyeAt w' B R.2.1 R.2.2 ∧ Kp (Jb B) w w'
set_option maxRecDepth 100000 in
set_option maxHeartbeats 2000000 in
theorem cget_any (B : Nat) (zs : List Int) (w : World) (h : EyeAt w B zs 0) (hl : zs.length ≤ 140737488355328) :
    Calls Try.prog 24 #[.pointer (some ⟨B, 0, none⟩)] w (GetPost w B (getC zs)) := by
  have HL := hid hl
  have HB := hid h.lt
  have k0 := (Kp.refl Nb w).alloc (.cells (cellL 0 (List.replicate 16 0) 0).toArray 26)
  obtain ⟨S, hSd⟩ : ∃ S : Nat → Prop, S = fun i => i = B ∨ w.heap.size ≤ i := ⟨_, rfl⟩
  have HS : Hid (∀ i, Jb B i → S i) := hid (fun i h => by rw [hSd]; exact .inl h)
  have HSN : Hid (∀ i, w.heap.size ≤ i → S i) := hid (fun i h => by rw [hSd]; exact .inr h)
  have hE := (EyeOn.of h w.heap.size (Nat.le_refl _)).kept k0 (fun h => h) (fun _ h => h.elim)
  rw [← hSd] at hE
  have HE := hid hE
  clear hE hSd
  have K0 := hid k0
  have HR := hid (Blk.new w 26 (cellL 0 (List.replicate 16 0) 0))
  clear h hl k0
  go_enter Try.func24, Try.ntmps24
  go_wp2_with fail
  refine (signed_on B zs 0 _ HS.out HE.out).mono ?_
  rintro e w1 ⟨rfl, h1, k1⟩
  obtain ⟨r, hr⟩ : ∃ r, readN zs 0 18446744073709551615 = r := ⟨_, rfl⟩
  rw [hr] at h1 ⊢
  have HRD := hid hr
  obtain ⟨ru, rz, re⟩ := r
  dsimp only at h1 ⊢
  obtain ⟨c, hc⟩ : ∃ c, zagI ru = c := ⟨_, rfl⟩
  rw [hc]
  have HCC := hid hc
  have HE1 := hid h1
  have HR1 := hid (HR.out.kept k1 (fun h => by have h' : w.heap.size = B := h; have := HB.out; omega))
  clear hr hc h1
  have K1 := hid k1
  clear k1
  have hb : ∀ w, (Instr.build 26 #[(0, .int .i64 c)]).run Try.prog w = .ok (.agg (cellL c (List.replicate 16 0) 0).toArray) w := fun w => build_count c w
  have HZ5 := Blk.new w1 26 (cellL 0 (List.replicate 16 0) 0)
  have TH : Hid ((w1.alloc (.cells (cellL 0 (List.replicate 16 0) 0).toArray 26)).there w1.heap.size 0 (cellL c (List.replicate 16 0) 0).toArray.size) := hid (by simpa [cellL_length] using HZ5.there 0 18 (by rw [cellL_length _ _ _ (by simp)]; omega))
  have HI3 : Hid ((Try.prog.info? 26).map (·.size) = some (cellL c (List.replicate 16 0) 0).toArray.size) := hid (by rw [show (cellL c (List.replicate 16 0) 0).toArray.size = 18 from by rw [List.size_toArray]; exact cellL_length _ _ _ (by simp)]; exact cell_info)
  have HO := hid (all_oneCell_toArray (cellL_one c (List.replicate 16 0) 0))
  go_upto_region 2 with (refine wpList_store_mid (by rfl) 26 (.tmp 3) (.tmp 8) (by rfl) w1.heap.size 0 (cellL c (List.replicate 16 0) 0).toArray (by rfl) (by rfl) TH.out HI3.out HO.out ?_)
  obtain ⟨W2, hW2⟩ : ∃ W2, W2 = (w1.alloc (.cells (cellL 0 (List.replicate 16 0) 0).toArray 26)).setCells w1.heap.size 0 (cellL c (List.replicate 16 0) 0) := ⟨_, rfl⟩
  have HC : Hid (Blk W2 w1.heap.size 26 (cellL c (List.replicate 16 0) 0)) := hid (by rw [hW2]; exact row_set HZ5 (by rw [cellL_length _ _ _ (by simp), cellL_length _ _ _ (by simp)]))
  have K2 : Hid (Kp Nb w1 W2) := hid (by rw [hW2]; exact Kp.setCells (fun h => absurd h (Nat.lt_irrefl _)) _ 0 _ ((Kp.refl Nb w1).alloc _))
  rw [show (w1.alloc (.cells #[.int .i64 0, .int .u8 0, .int .u8 0, .int .u8 0, .int .u8 0, .int .u8 0, .int .u8 0, .int .u8 0, .int .u8 0, .int .u8 0, .int .u8 0, .int .u8 0, .int .u8 0, .int .u8 0, .int .u8 0, .int .u8 0, .int .u8 0, .int .u64 0] 26)).setCells w1.heap.size 0 (cellL c (List.replicate 16 0) 0) = W2 from hW2.symm]
  have HBC : Hid (w1.heap.size ≠ B) := hid (by have := HE1.out.lt; omega)
  have HWC : Hid (w.heap.size < w1.heap.size) := hid HR1.out.lt
  have HE2 := hid (HE1.out.kept K2.out (fun h => h) (fun _ h => h.elim))
  have HR2 := hid (HR1.out.kept K2.out (fun h => h))
  obtain ⟨C, hC⟩ : ∃ C, w1.heap.size = C := ⟨_, rfl⟩
  rw [hC] at HC HBC HWC ⊢
  have HCS := hid hC
  clear hC hW2 HZ5 TH HI3 HO hb HE1 HR1
  have HRZ : Hid (rz.length ≤ 140737488355328) := hid (by have := readN_left zs 0 18446744073709551615; rw [HRD.out] at this; have := HL.out; dsimp only at *; omega)
  obtain ⟨f, hf⟩ : ∃ f, fixN rz re 16 = f := ⟨_, rfl⟩
  have hfl := fixN_le rz re 16 (by decide)
  have CF : Hid (∀ w, EyeOn S w B rz re → Calls Try.prog 48 #[.pointer (some ⟨B, 0, none⟩), .int .i64 16] w fun r w' => (∃ v', r = .returned v' ∧ BySl (fun i => i < w.heap.size) w' v' f.1) ∧ EyeOn S w' B f.2.1 f.2.2 ∧ Kp (Jb B) w w') := hid (fun w h => by rw [← hf]; exact fixed_on B rz re 16 w HS.out h HRZ.out)
  rw [hf] at hfl
  have HFD := hid hf
  have HFL := hid hfl
  clear hf hfl
  simp only [Act.put]
  go_region_held3 (fun w' => Hid (Kp (fun x => x = B ∨ x = C) W2 w'))
    (first | exact hid ((Kp.refl _ W2).drew) | exact kh)
    (first
      | (go_at_call 48; refine (CF.out _ HE2.out.drew).mono ?_; rintro e wy ⟨⟨v', rfl, hv'⟩, he, kk⟩; have kh : Hid (Kp (fun x => x = B ∨ x = C) W2 wy) := hid (((Kp.refl _ W2).drew).trans kk (fun _ _ h => .inl h)); have HE3 := hid he; have HV := hid hv'; have HC3 := hid (Blk.kept (Blk.drew HC.out) kk HBC.out); have HR3 := hid (Blk.kept (Blk.drew HR2.out) kk (fun h => by have h' : w.heap.size = B := h; have := HB.out; omega)); clear he hv' kk)
      | (refine step_copy_blk (by rfl) (.tmp 10) (.tmp 12) (by rfl) C 1 16 16 26 (cellL c (List.replicate 16 0) 0) v' f.1 (by rfl) (by rfl) HC3.out HV.out (by have := HFL.out; omega) (by rw [cellL_length _ _ _ (by simp)]; have := HFL.out; omega) ?_; intro w4 hb4 k4; have kh : Hid (Kp (fun x => x = B ∨ x = C) W2 w4) := hid (kh.out.trans k4 (fun _ _ h => .inr h)); have HC4 := hid hb4; have K4 := hid k4; clear hb4 k4))
  have HBS : Hid (C ≠ B) := HBC
  have HE4 := hid (HE3.out.kept K4.out (fun h => HBS.out h.symm) (fun i h => by have h' : i = C := h; exact HSN.out i (by have := HWC.out; omega)))
  have HR4 := hid (HR3.out.kept K4.out (fun h => by have h' : w.heap.size = C := h; have := HWC.out; omega))
  have hcc := HC4.out
  rw [cell_copied c f.1 (by have := HFL.out; omega) 0] at hcc
  have HC5 := hid hcc
  obtain ⟨mk, hmk⟩ : ∃ m, markOf f.1 = m := ⟨_, rfl⟩
  rw [hmk] at HC5
  have HMK := hid hmk
  have HMKL : Hid (mk.length = 16) := hid (by rw [← hmk]; exact markOf_length f.1 (by have := HFL.out; omega))
  have HFZ : Hid (f.2.1.length ≤ 140737488355328) := hid (by
    have h1 : f.2.1.length ≤ rz.length := by
      rw [← HFD.out]
      unfold fixN
      split
      · exact Nat.le_refl _
      · split
        · simp
        · split
          · simp
          · simp
    have := HRZ.out
    omega)
  obtain ⟨g, hg⟩ : ∃ g, fixN f.2.1 f.2.2 8 = g := ⟨_, rfl⟩
  have hgl := fixN_le f.2.1 f.2.2 8 (by decide)
  have CG : Hid (∀ w, EyeOn S w B f.2.1 f.2.2 → Calls Try.prog 48 #[.pointer (some ⟨B, 0, none⟩), .int .i64 8] w fun r w' => (∃ v', r = .returned v' ∧ BySl (fun i => i < w.heap.size) w' v' g.1) ∧ EyeOn S w' B g.2.1 g.2.2 ∧ Kp (Jb B) w w') := hid (fun w h => by rw [← hg]; exact fixed_on B f.2.1 f.2.2 8 w HS.out h HFZ.out)
  rw [hg] at hgl
  have HGD := hid hg
  have HGL := hid hgl
  clear hg hgl hcc hmk HC4 HC3 HE3 HR3 HV
  go_wp2_with fail
  refine (CG.out _ HE4.out).mono ?_
  rintro e w5 ⟨⟨v8, rfl, hv8⟩, he5, k5⟩
  have HE5 := hid he5
  have HC6 := hid (HC5.out.kept k5 HBS.out)
  have HR6 := hid (HR4.out.kept k5 (fun h => by have h' : w.heap.size = B := h; have := HB.out; omega))
  have HC4l := hid HC5.out.lt
  have K5 := hid k5
  have HB8 := hid hv8.1
  obtain ⟨x8, c8, rfl⟩ : ∃ x c, v8 = .slice x g.1.length c := by
    rcases hv8.2 with ⟨⟨a, c, rfl⟩, e⟩ | ⟨blk, off, cap, rfl, _⟩
    · rw [e]; exact ⟨a, c, rfl⟩
    · exact ⟨_, _, rfl⟩
  have HV8 := hid hv8
  clear hv8 he5 k5 HE4 HR4 HC5
  have hgl := HGL.out
  go_wp2
  go_loopw [17] (fun i wr => GetR w5 C c mk g.1 i wr) (fun i _ => g.1.length - (intOf i).toNat)
  case atStart => exact ⟨0, by omega, rfl, HC6, hid (Kp.refl _ _)⟩
  case round =>
    obtain ⟨j, hj, rfl, HX, HK⟩ := hrel
    by_cases hlt : j < g.1.length
    · rcases HV8.out.2 with ⟨_, e0⟩ | ⟨blk, off, cap, e1, hc, hm, hat, hS⟩
      · rw [e0] at hlt
        exact absurd hlt (Nat.not_lt_zero _)
      · injection e1 with e1 _ e2
        subst e1 e2
        have hbC : ¬ Jb C blk := fun h => by have h' : blk = C := h; exact hS (by omega) (by show blk < _; have := HC4l.out; omega)
        have c1 := HK.out.cell (hat j hlt) hbC
        have c0 := cell_k HMKL.out HX.out
        have f0 := HX.out.frozen 17
        have hb := HB8.out j
        have hsn := chkF_snoc g.1 j hlt
        obtain ⟨b, hbb⟩ : ∃ b, g.1[j]?.getD 0 = b := ⟨_, rfl⟩
        rw [hbb] at c1 hb hsn
        obtain ⟨k, hk⟩ : ∃ k, chkF (g.1.take j) = k := ⟨_, rfl⟩
        rw [hk] at c0 hsn
        have HXN : Hid (Blk (wr.setCell ⟨C, 17, none⟩ (.int .u64 (bits .or .u64 (IntKind.u64.wrap (k * 256)) b))) C 26 (cellL c mk (chkF (g.1.take (j + 1))))) := hid (by rw [hsn, ← cell_set17 c mk (chkF (g.1.take j)) _ HMKL.out]; exact HX.out.set 17 _)
        have HKN := hid (HK.out.set 17 (.int .u64 (bits .or .u64 (IntKind.u64.wrap (k * 256)) b)))
        clear hbb hk hsn hat hS hbC
        go_wp2
        go_roundw
        case rel => exact ⟨j + 1, by omega, by go_num, HXN, HKN⟩
        case measure => simp [intOf]; omega
    · obtain rfl : j = g.1.length := by omega
      have hx := HX.out
      rw [List.take_length] at hx
      have HX2 := hid hx
      obtain ⟨k, hk⟩ : ∃ k, chkF g.1 = k := ⟨_, rfl⟩
      rw [hk] at HX2
      have HKK := hid hk
      have HE6 := hid (HE5.out.kept HK.out (fun h => HBS.out h.symm) (fun i h => by have h' : i = C := h; exact HSN.out i (by have := HWC.out; omega)))
      have HR7 := hid (HR6.out.kept HK.out (fun h => by have h' : w.heap.size = C := h; have := HWC.out; omega))
      have hka : Kp (Jb B) w wr := by
        have a1 : Kp (Jb B) w (w.alloc (.cells (cellL 0 (List.replicate 16 0) 0).toArray 26)) := K0.out.mono (fun _ _ h => h.elim)
        have a2 := (a1.trans K1.out (fun _ _ h => h)).trans K2.out (fun _ _ h => h.elim)
        have a3 := a2.trans kh.out (fun i hi h => by
          rcases h with h | h
          · exact h
          · have := HWC.out; omega)
        exact (a3.trans K5.out (fun _ _ h => h)).trans HK.out (fun i hi h => by have h' : i = C := h; have := HWC.out; omega)
      have KA := hid hka
      clear hx hk hka HX
      have hb0 : ∀ w, (Instr.build 26 #[]).run Try.prog w = .ok (.agg (cellL 0 (List.replicate 16 0) 0).toArray) w := fun w => run_build w 26 _ _ (by kernel_rfl)
      obtain ⟨d', hu, hd⟩ := cell_under
      have HU := hid hu
      have HI := hid (cell_infoL c mk k HMKL.out)
      clear hu
      have hgo : getC zs = getOf c f.1 g := by unfold getC; rw [HRD.out]; dsimp only; rw [HCC.out, HFD.out, HGD.out]
      have HGO := hid hgo
      clear hgo
      cases hr : crightB c with
      | true =>
        have CR : Hid (∀ w, Calls Try.prog 19 #[cellV c mk k] w fun e w' => e = .returned (.bool true) ∧ Kp Nb w w') := hid (fun w => by rw [← hr]; exact cright_any c mk k w)
        have HRR := hid hr
        clear hr
        go_wp2_with (refine wpList_load_mid (by rfl) 26 (.tmp 3) (by rfl) C 0 (by rfl) (cellL c mk k) d' (range_of HX2.out) HU.out hd HI.out ?_)
        refine (CR.out _).mono ?_
        rintro e w6 ⟨rfl, k6⟩
        have HX3 := hid (HX2.out.kept k6 (fun h => h))
        have HE7 := hid (HE6.out.kept k6 (fun h => h) (fun _ h => h.elim))
        have HR8 := hid (HR7.out.kept k6 (fun h => h))
        have KA6 := hid (KA.out.trans k6 (fun _ _ h => h.elim))
        clear k6
        go_wp2_with fail
        refine (err_on B g.2.1 g.2.2 _ HS.out HE7.out).mono ?_
        rintro e w7 ⟨rfl, rfl⟩
        by_cases hge : g.2.2 = 0
        · have e1 : (g.2.2 != 0) = false := by rw [bne_eq_false_iff_eq]; exact hge
          have HGE := hid hge
          clear hge
          have TH : Hid (w6.there w.heap.size 0 (cellL c mk k).toArray.size) := hid (by rw [show (cellL c mk k).toArray.size = 18 from by rw [List.size_toArray]; exact cellL_length _ _ _ HMKL.out]; exact HR8.out.there 0 18 (by rw [cellL_length _ _ _ (by simp)]; omega))
          have HI3 : Hid ((Try.prog.info? 26).map (·.size) = some (cellL c mk k).toArray.size) := hid (by rw [show (cellL c mk k).toArray.size = 18 from by rw [List.size_toArray]; exact cellL_length _ _ _ HMKL.out]; exact cell_info)
          have HO2 := hid (all_oneCell_toArray (cellL_one c mk k))
          have HF1 : Hid (Blk (w6.setCells w.heap.size 0 (cellL c mk k)) w.heap.size 26 (cellL c mk k)) := hid (row_set HR8.out ((cellL_length _ _ _ HMKL.out).trans (cellL_length _ _ _ (by simp)).symm))
          have KF := Kp.setCells (S := Jb w.heap.size) (B := w.heap.size) (fun _ => show w.heap.size = w.heap.size from rfl) (cellL c mk k) 0 _ (Kp.refl _ w6)
          have HEF := hid (HE7.out.kept KF (fun h => by have h' : B = w.heap.size := h; have := HB.out; omega) (fun i h => by have h' : i = w.heap.size := h; exact HSN.out i (by omega)))
          have HKF : Hid (Kp (Jb B) w (w6.setCells w.heap.size 0 (cellL c mk k))) := hid (KA6.out.trans KF (fun i hi h => by have h' : i = w.heap.size := h; omega))
          clear KF
          go_wp2_with (first
            | (refine wpList_load_mid (by rfl) 26 (.tmp 3) (by rfl) C 0 (by rfl) (cellL c mk k) d' (range_of HX3.out) HU.out hd HI.out ?_)
            | (refine wpList_store_mid (by rfl) 26 (.tmp 2) (.tmp 38) (by rfl) w.heap.size 0 (cellL c mk k).toArray (by rfl) (by rfl) TH.out HI3.out HO2.out ?_))
          refine bodyPost_ret (v := cellV c mk k) (results_cell rfl _ w.heap.size (by rfl) _ (cell_loadVar (hid HMKL.out) HF1)) rfl ?_
          unfold GetPost
          rw [HGO.out]
          unfold getOf
          rw [if_pos HRR.out, if_pos HGE.out]
          exact ⟨by rw [HMK.out, HKK.out], HEF.out.at HS.out, HKF.out⟩
        · have e1 : (g.2.2 != 0) = true := by rw [bne_iff_ne]; exact hge
          have HGE := hid hge
          clear hge
          have TH : Hid (w6.there w.heap.size 0 (cellL 0 (List.replicate 16 0) 0).toArray.size) := hid (by rw [show (cellL 0 (List.replicate 16 0) 0).toArray.size = 18 from by rw [List.size_toArray]; exact cellL_length _ _ _ (List.length_replicate (n := 16))]; exact HR8.out.there 0 18 (by rw [cellL_length _ _ _ (by simp)]; omega))
          have HI3 : Hid ((Try.prog.info? 26).map (·.size) = some (cellL 0 (List.replicate 16 0) 0).toArray.size) := hid (by rw [show (cellL 0 (List.replicate 16 0) 0).toArray.size = 18 from by rw [List.size_toArray]; exact cellL_length _ _ _ (List.length_replicate (n := 16))]; exact cell_info)
          have HO2 := hid (all_oneCell_toArray (cellL_one 0 (List.replicate 16 0) 0))
          have HF1 : Hid (Blk (w6.setCells w.heap.size 0 (cellL 0 (List.replicate 16 0) 0)) w.heap.size 26 (cellL 0 (List.replicate 16 0) 0)) := hid (row_set HR8.out ((cellL_length _ _ _ (List.length_replicate (n := 16))).trans (cellL_length _ _ _ (by simp)).symm))
          have KF := Kp.setCells (S := Jb w.heap.size) (B := w.heap.size) (fun _ => show w.heap.size = w.heap.size from rfl) (cellL 0 (List.replicate 16 0) 0) 0 _ (Kp.refl _ w6)
          have HEF := hid (HE7.out.kept KF (fun h => by have h' : B = w.heap.size := h; have := HB.out; omega) (fun i h => by have h' : i = w.heap.size := h; exact HSN.out i (by omega)))
          have HKF : Hid (Kp (Jb B) w (w6.setCells w.heap.size 0 (cellL 0 (List.replicate 16 0) 0))) := hid (KA6.out.trans KF (fun i hi h => by have h' : i = w.heap.size := h; omega))
          clear KF
          go_wp2_with (first
            | (refine wpList_store_mid (by rfl) 26 (.tmp 2) (.tmp 37) (by rfl) w.heap.size 0 (cellL 0 (List.replicate 16 0) 0).toArray (by rfl) (by rfl) TH.out HI3.out HO2.out ?_))
          refine bodyPost_ret (v := cellV 0 (List.replicate 16 0) 0) (results_cell rfl _ w.heap.size (by rfl) _ (cell_loadVar (hid (List.length_replicate (n := 16))) HF1)) rfl ?_
          unfold GetPost
          rw [HGO.out]
          unfold getOf
          rw [if_pos HRR.out, if_neg HGE.out]
          exact ⟨rfl, HEF.out.at HS.out, HKF.out⟩
      | false =>
        have CR : Hid (∀ w, Calls Try.prog 19 #[cellV c mk k] w fun e w' => e = .returned (.bool false) ∧ Kp Nb w w') := hid (fun w => by rw [← hr]; exact cright_any c mk k w)
        have HRR : Hid (¬ crightB c = true) := hid (by rw [hr]; decide)
        clear hr
        go_wp2_with (refine wpList_load_mid (by rfl) 26 (.tmp 3) (by rfl) C 0 (by rfl) (cellL c mk k) d' (range_of HX2.out) HU.out hd HI.out ?_)
        refine (CR.out _).mono ?_
        rintro e w6 ⟨rfl, k6⟩
        have HE7 := hid (HE6.out.kept k6 (fun h => h) (fun _ h => h.elim))
        have HR8 := hid (HR7.out.kept k6 (fun h => h))
        have KA6 := hid (KA.out.trans k6 (fun _ _ h => h.elim))
        clear k6
        go_wp2_with fail
        refine (fail_on B g.2.1 g.2.2 12 _ HS.out HE7.out).mono ?_
        rintro e w7 ⟨rfl, he7, k7⟩
        have HE8 := hid he7
        have HR9 := hid (HR8.out.kept k7 (fun h => by have h' : w.heap.size = B := h; have := HB.out; omega))
        have KA7 := hid (KA6.out.trans k7 (fun _ _ h => h))
        clear he7 k7
        have hfe : failE g.2.2 12 ≠ 0 := by unfold failE; split <;> omega
        have e1 : (failE g.2.2 12 != 0) = true := by rw [bne_iff_ne]; exact hfe
        clear hfe
        go_wp2_with fail
        refine (err_on B (failS g.2.1 g.2.2 12) (failE g.2.2 12) _ HS.out HE8.out).mono ?_
        rintro e w8 ⟨rfl, rfl⟩
        have TH : Hid (w7.there w.heap.size 0 (cellL 0 (List.replicate 16 0) 0).toArray.size) := hid (by rw [show (cellL 0 (List.replicate 16 0) 0).toArray.size = 18 from by rw [List.size_toArray]; exact cellL_length _ _ _ (List.length_replicate (n := 16))]; exact HR9.out.there 0 18 (by rw [cellL_length _ _ _ (by simp)]; omega))
        have HI3 : Hid ((Try.prog.info? 26).map (·.size) = some (cellL 0 (List.replicate 16 0) 0).toArray.size) := hid (by rw [show (cellL 0 (List.replicate 16 0) 0).toArray.size = 18 from by rw [List.size_toArray]; exact cellL_length _ _ _ (List.length_replicate (n := 16))]; exact cell_info)
        have HO2 := hid (all_oneCell_toArray (cellL_one 0 (List.replicate 16 0) 0))
        have HF1 : Hid (Blk (w7.setCells w.heap.size 0 (cellL 0 (List.replicate 16 0) 0)) w.heap.size 26 (cellL 0 (List.replicate 16 0) 0)) := hid (row_set HR9.out ((cellL_length _ _ _ (List.length_replicate (n := 16))).trans (cellL_length _ _ _ (by simp)).symm))
        have KF := Kp.setCells (S := Jb w.heap.size) (B := w.heap.size) (fun _ => show w.heap.size = w.heap.size from rfl) (cellL 0 (List.replicate 16 0) 0) 0 _ (Kp.refl _ w7)
        have HEF := hid (HE8.out.kept KF (fun h => by have h' : B = w.heap.size := h; have := HB.out; omega) (fun i h => by have h' : i = w.heap.size := h; exact HSN.out i (by omega)))
        have HKF : Hid (Kp (Jb B) w (w7.setCells w.heap.size 0 (cellL 0 (List.replicate 16 0) 0))) := hid (KA7.out.trans KF (fun i hi h => by have h' : i = w.heap.size := h; omega))
        clear KF
        go_wp2_with (first
          | (refine wpList_store_mid (by rfl) 26 (.tmp 2) (.tmp 37) (by rfl) w.heap.size 0 (cellL 0 (List.replicate 16 0) 0).toArray (by rfl) (by rfl) TH.out HI3.out HO2.out ?_))
        refine bodyPost_ret (v := cellV 0 (List.replicate 16 0) 0) (results_cell rfl _ w.heap.size (by rfl) _ (cell_loadVar (hid (List.length_replicate (n := 16))) HF1)) rfl ?_
        unfold GetPost
        rw [HGO.out]
        unfold getOf
        rw [if_neg HRR.out]
        exact ⟨rfl, HEF.out.at HS.out, HKF.out⟩

end Go.Proofs.Ytofjkaemakdmeaa
