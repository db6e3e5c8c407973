/-
  Layer 11: walks of Of, New, From. Conditions: cells and marks are what their kinds hold; a size that may be.
-/
import Derived.Test.YteedceepoindeaaIbD
namespace Go.Proofs.Yteedceepoindeaa
open Go.RowKit

def zeroS (n : Nat) : List Cel := List.replicate n c0
theorem zeroS_ok (n : Nat) : AllOk (zeroS n) := fun q hq => by rw [List.eq_of_mem_replicate hq]; exact c0_ok
theorem zeroS_length (n : Nat) : (zeroS n).length = n := by simp [zeroS]
theorem zeroS_at (n i : Nat) : (zeroS n)[i]?.getD c0 = c0 := by unfold zeroS; rw [List.getElem?_replicate]; split <;> rfl
theorem cell_zc : ∃ i z, Try.prog.info? 41 = some i ∧ i.zero = some z ∧ i.size = 18 ∧ i.bytes = 32 ∧ z.cells = (cl c0).toArray := by
  have h : ((Try.prog.info? 41).map fun i => (i.zero.map fun z => z.cells, i.size, i.bytes)) = some (some (cl c0).toArray, 18, 32) := by kernel_rfl
  obtain ⟨i, hi, h2⟩ := Option.map_eq_some_iff.1 h
  simp only [Prod.mk.injEq] at h2
  obtain ⟨z, hz, hz2⟩ := Option.map_eq_some_iff.1 h2.1
  exact ⟨i, z, hi, hz, h2.2.1, h2.2.2, hz2⟩
theorem made_zero (n : Nat) : (madeCells (cl c0).toArray (n * 18)).toList = rws (zeroS n) := by
  have hl := flatR_length (zeroS n) (zeroS_ok n).len
  rw [zeroS_length] at hl
  apply List.ext_getElem?
  intro j
  rcases Nat.lt_or_ge j (n * 18) with h | h
  · have e := flatR_get (f := cl) (z := c0) (c := 18) (zeroS n) (j / 18) (j % 18) (zeroS_ok n).len (by rw [zeroS_length]; omega) (by omega)
    rw [show j / 18 * 18 + j % 18 = j from by omega, zeroS_at] at e
    rw [e, Array.getElem?_toList]
    unfold madeCells
    rw [Array.getElem?_map, Array.getElem?_range]
    rw [if_pos h]
    have hs : (cl c0).toArray.size = 18 := rfl
    have hm : j % 18 < (cl c0).toArray.size := by rw [hs]; omega
    simp only [Option.map_some, hs]
    rw [getElem!_pos (cl c0).toArray (j % 18) hm, ← List.getElem?_toArray, Array.getElem?_eq_getElem hm]
  · rw [List.getElem?_eq_none (by rw [Array.length_toList, size_madeCells]; exact h), List.getElem?_eq_none (by rw [hl]; exact h)]
theorem make_zero (w : World) (n : Nat) (hn : n ≤ 1000000) : (Instr.makeSlice 35 (.int .i64 (n : Int)) (.int .i64 (n : Int))).run Try.prog w = .ok (.slice (some ⟨w.heap.size, 0, none⟩) n n) (w.alloc (.cells (rws (zeroS n)).toArray 41)) := by
  obtain ⟨i, z, h1, h2, h3, h4, h5⟩ := cell_zc
  have h := run_make (P := Try.prog) w _ _ i z Try.underlying35 h1 h2 .i64 .i64 n n (by omega) (Int.le_refl _) (by rw [h4]; omega) (by omega)
  rw [Int.toNat_natCast, h3, h5, ← Array.toArray_toList (xs := madeCells _ _), made_zero] at h
  exact h

def ofS (t : Nat) (ms : List (List Int)) : List Cel := ms.foldl (fun cs m => updP addC t m cs 3) (zeroS (3 * t))
theorem ofS_snoc (t : Nat) (ms : List (List Int)) (k : Nat) (h : k < ms.length) : ofS t (ms.take (k + 1)) = updP addC t (markAt ms k) (ofS t (ms.take k)) 3 := by
  unfold ofS markAt
  rw [List.take_succ_eq_append_getElem h, List.foldl_append, List.getElem?_eq_getElem h]
  rfl
theorem foldS_length (t : Nat) : ∀ (ms : List (List Int)) (cs : List Cel), (ms.foldl (fun cs m => updP addC t m cs 3) cs).length = cs.length
  | [], _ => rfl
  | m :: r, cs => by rw [List.foldl_cons, foldS_length t r, updP_length]
theorem ofS_length (t : Nat) (ms : List (List Int)) : (ofS t ms).length = 3 * t := by unfold ofS; rw [foldS_length, zeroS_length]
def OfR (w : World) (B C t : Nat) (ms : List (List Int)) (i : Value) (wr : World) : Prop := ∃ k : Nat, k ≤ ms.length ∧ i = .int .i64 k ∧ Hid (SkAt wr B C (ofS t (ms.take k))) ∧ Hid (Kp Nb w wr)

set_option maxRecDepth 100000 in
set_option maxHeartbeats 2000000 in
theorem of_yes (t : Nat) (v : Value) (ms : List (List Int)) (w : World) (h0 : 0 < t) (h1 : t ≤ 512) (hs : MkSl w v ms) :
    Calls Try.prog 11 #[.int .i64 ((3 * t : Nat) : Int), v] w fun e w' => ∃ B C, e = .returned (.tuple #[.pointer (some ⟨B, 0, none⟩), .int .i64 0]) ∧ SkAt w' B C (ofS t ms) ∧ w.heap.size ≤ B ∧ w.heap.size ≤ C ∧ Kp Nb w w' := by
  obtain ⟨y, d, rfl⟩ := hs.shape
  obtain ⟨n, hn⟩ : ∃ n, 3 * t = n := ⟨_, rfl⟩
  rw [hn]
  have CF : Hid (∀ w, Calls Try.prog 12 #[.int .i64 (n : Int)] w fun e w' => e = .returned (.bool true) ∧ w = w') := hid (fun w => by
    have h := fits_any n w (by omega) (by omega)
    rw [show fitB (n : Int) = true from decide_eq_true (by omega)] at h
    exact h)
  have MK := make_zero w n (by omega)
  have HS := hid hs
  have HN := hid hn
  have HT : Hid (0 < t ∧ t ≤ 512) := hid ⟨h0, h1⟩
  have KA : Hid (∀ (B C : Nat) (cs : List Cel) (m : List Int) (w : World), SkAt w B C cs → MarkOk m → cs.length = 3 * t → Calls Try.prog 18 #[.pointer (some ⟨B, 0, none⟩), markV m] w fun e w' => e = .returned (.tuple #[]) ∧ SkAt w' B C (updP addC t m cs 3) ∧ Kp (Jb C) w w') := hid (fun B C cs m w a b c => kadd_any B C t cs m w a b c h1)
  obtain ⟨zs, hz⟩ : ∃ zs, zs = rws (zeroS n) := ⟨_, rfl⟩
  rw [← hz] at MK
  obtain ⟨W, hW⟩ : ∃ W, W = (w.alloc (.cells zs.toArray 41)).alloc (.cells #[.slice (some ⟨w.heap.size, 0, none⟩) n n] 77) := ⟨_, rfl⟩
  have S0 : Hid (SkAt W (w.heap.size + 1) w.heap.size (ofS t (ms.take 0))) := hid (by
    have hb : Blk (w.alloc (.cells zs.toArray 41)) w.heap.size 41 (rws (zeroS n) ++ []) := by rw [List.append_nil, ← hz]; exact Blk.new w _ _
    have h := SkAt.mk' (zeroS_ok n) (by rw [zeroS_length]; omega) hb (cap := n) (by rw [zeroS_length]; exact Nat.le_refl _) (by unfold maxLen; omega)
    rw [zeroS_length, World.size_alloc] at h
    rw [hW]
    unfold ofS
    rw [List.take_zero, hn]
    exact h)
  have K0 : Hid (Kp Nb w W) := hid (by rw [hW]; exact ((Kp.refl Nb w).alloc _).alloc _)
  have BZ : (Instr.build 77 #[(0, .slice (some ⟨w.heap.size, 0, none⟩) n n)]).run Try.prog (w.alloc (.cells zs.toArray 41)) = .ok (.agg #[.slice (some ⟨w.heap.size, 0, none⟩) n n]) (w.alloc (.cells zs.toArray 41)) := run_build _ 77 _ _ (by kernel_rfl)
  clear hs hn h0 h1 hz
  go_enter Try.func11, Try.ntmps11
  go_wp2_with fail
  refine (CF.out _).mono ?_
  rintro e w1 ⟨rfl, rfl⟩
  go_wp2
  rw [show (w.alloc (.cells zs.toArray 41)).alloc (.cells #[.slice (some ⟨w.heap.size, 0, none⟩) n n] 77) = W from hW.symm]
  clear hW MK BZ
  generalize hC : w.heap.size = C at *
  have LC : Hid (w.heap.size ≤ C) := hid (Nat.le_of_eq hC)
  clear hC
  go_loopw [18] (OfR w (C + 1) C t ms) (fun i _ => ms.length - (intOf i).toNat)
  case atStart => exact ⟨0, by omega, rfl, S0, K0⟩
  case round =>
    clear S0 K0
    obtain ⟨k, hk, rfl, HA, HK⟩ := hrel
    by_cases hlt : k < ms.length
    · have hC := HS.out.kept HK.out
      rcases hC.2 with ⟨_, e0⟩ | ⟨blk, off, cap, e1, hc, hm, hcell⟩
      · rw [e0] at hlt
        exact absurd hlt (Nat.not_lt_zero _)
      · injection e1 with e1 _ e2
        subst e1 e2
        have HR := hid (hcell k hlt)
        have M1 := hid (hC.1 k)
        have HQ := hid (ofS_snoc t ms k hlt)
        have HL := hid (ofS_length t (ms.take k))
        unfold maxLen at hm
        generalize markAt ms k = z at HR M1 HQ
        generalize ofS t (ms.take k) = cs at HA HQ HL
        have hz := Blk.new wr 23 (markL (List.replicate 16 0))
        obtain ⟨W2, hW2⟩ : ∃ W, W = (wr.alloc (.cells (markL (List.replicate 16 0)).toArray 23)).setCells wr.heap.size 0 (markL z) := ⟨_, rfl⟩
        have kW : Kp Nb wr W2 := by rw [hW2]; exact Kp.setCells (fun h => absurd h (Nat.lt_irrefl _)) _ 0 _ ((Kp.refl Nb wr).alloc _)
        have TH := hid (mark_there hz (by rw [markL_length]; rfl) M1.out)
        have SI := hid (mark_sized M1.out)
        have ON := hid (all_oneCell_toArray (markL_one z))
        have HZ : Hid (Blk W2 wr.heap.size 23 (markL z)) := hid (by rw [hW2]; exact row_set hz (by rw [markL_length, markL_length, M1.out.len]; rfl))
        have HA1 := hid (HA.out.kept kW (fun h => h) (fun h => h))
        have HK1 := hid (HK.out.trans kW (fun _ _ h => h))
        clear hz kW hcell hC
        go_upto_region 7 with (first
          | (refine wpList_load_mid (by rfl) 23 (.tmp 20) (by rfl) blk (off + k * 16) (by rfl) (markL z) _ HR.out under_mark rfl (mark_infoL z M1.out.len) ?_)
          | (refine wpList_store_mid (by rfl) 23 (.tmp 8) (.tmp 21) (by rfl) wr.heap.size 0 (markL z).toArray (by rfl) (by rfl) TH.out SI.out ON.out ?_))
        rw [show (wr.alloc (.cells #[.int .u8 0, .int .u8 0, .int .u8 0, .int .u8 0, .int .u8 0, .int .u8 0, .int .u8 0, .int .u8 0, .int .u8 0, .int .u8 0, .int .u8 0, .int .u8 0, .int .u8 0, .int .u8 0, .int .u8 0, .int .u8 0] 23)).setCells wr.heap.size 0 (markL z) = W2 from hW2.symm]
        clear hW2 TH SI ON
        go_wp2_with (refine wpList_load_mid (by rfl) 23 (.tmp 8) (by rfl) wr.heap.size 0 (by rfl) (markL z) _ (range_of HZ.out) under_mark rfl (mark_infoL z M1.out.len) ?_)
        refine (KA.out (C + 1) C cs z _ HA1.out M1.out HL.out).mono ?_
        rintro e w3 ⟨rfl, s3, k3⟩
        have HA3 : Hid (SkAt w3 (C + 1) C (ofS t (ms.take (k + 1)))) := hid (by rw [HQ.out]; exact s3)
        have HK3 := hid (HK1.out.trans k3 (fun i hi h => by have h' : i = C := h; have := LC.out; omega))
        clear s3 k3 HA1 HK1
        go_wp2
        go_roundw
        case rel => exact ⟨k + 1, by omega, by go_num, HA3, HK3⟩
        case measure => simp [intOf]; omega
    · obtain rfl : k = ms.length := by omega
      have HA3 : Hid (SkAt wr (C + 1) C (ofS t ms)) := hid (by have h := HA.out; rw [List.take_length] at h; exact h)
      clear HA
      go_wp2
      go_ret2
      exact ⟨C + 1, C, rfl, HA3.out, by have := LC.out; omega, LC.out, HK.out⟩
set_option maxHeartbeats 400000 in
theorem of_no (n : Int) (v : Value) (w : World) (h0 : -9223372036854775808 ≤ n) (h1 : n < 9223372036854775808) (hf : fitB n = false) :
    Calls Try.prog 11 #[.int .i64 n, v] w fun e w' => e = .returned (.tuple #[.pointer none, .int .i64 2]) ∧ w = w' := by
  have CF : Hid (∀ w, Calls Try.prog 12 #[.int .i64 n] w fun e w' => e = .returned (.bool false) ∧ w = w') := hid (fun w => by rw [← hf]; exact fits_any n w h0 h1)
  clear h0 h1 hf
  go_enter Try.func11, Try.ntmps11
  go_wp2_with fail
  refine (CF.out _).mono ?_
  rintro e w1 ⟨rfl, rfl⟩
  go_wp2
  go_ret2
  exact ⟨rfl, rfl⟩
theorem mkSl_none (w : World) : MkSl w (.slice none 0 0) [] := ⟨fun i => by unfold markAt; exact zero_ok, .inl ⟨⟨none, 0, rfl⟩, rfl⟩⟩
set_option maxHeartbeats 400000 in
theorem new_yes (t : Nat) (w : World) (h0 : 0 < t) (h1 : t ≤ 512) :
    Calls Try.prog 9 #[.int .i64 ((3 * t : Nat) : Int)] w fun e w' => ∃ B C, e = .returned (.tuple #[.pointer (some ⟨B, 0, none⟩), .int .i64 0]) ∧ SkAt w' B C (zeroS (3 * t)) ∧ w.heap.size ≤ B ∧ w.heap.size ≤ C ∧ Kp Nb w w' := by
  have CO := hid (of_yes t (.slice none 0 0) [] w h0 h1 (mkSl_none w))
  obtain ⟨n, hn⟩ : ∃ n : Int, ((3 * t : Nat) : Int) = n := ⟨_, rfl⟩
  rw [hn] at CO ⊢
  clear hn h0 h1
  go_enter Try.func9, Try.ntmps9
  go_wp2_with fail
  refine CO.out.mono ?_
  rintro e w1 ⟨B, C, rfl, s1, hB, hC, k1⟩
  have S1 := hid s1
  have K1 := hid k1
  have HB := hid hB
  have HC := hid hC
  clear s1 k1 hB hC CO
  go_wp2
  go_ret2
  exact ⟨B, C, rfl, S1.out, HB.out, HC.out, K1.out⟩
set_option maxHeartbeats 400000 in
theorem new_no (n : Int) (w : World) (h0 : -9223372036854775808 ≤ n) (h1 : n < 9223372036854775808) (hf : fitB n = false) :
    Calls Try.prog 9 #[.int .i64 n] w fun e w' => e = .returned (.tuple #[.pointer none, .int .i64 2]) ∧ w = w' := by
  have CO := hid (of_no n (.slice none 0 0) w h0 h1 hf)
  clear h0 h1 hf
  go_enter Try.func9, Try.ntmps9
  go_wp2_with fail
  refine CO.out.mono ?_
  rintro e w1 ⟨rfl, rfl⟩
  go_wp2
  go_ret2
  exact ⟨rfl, rfl⟩
set_option maxHeartbeats 800000 in
theorem from_yes (v : Value) (cs : List Cel) (w : World) (h : RowsSl cl c0 18 w v cs) (ho : AllOk cs) (hf : fitB cs.length = true) :
    Calls Try.prog 17 #[v] w fun e w' => ∃ B C, e = .returned (.tuple #[.pointer (some ⟨B, 0, none⟩), .int .i64 0]) ∧ SkAt w' B C cs ∧ w.heap.size ≤ B ∧ w.heap.size ≤ C ∧ Kp Nb w w' := by
  obtain ⟨y, d, rfl⟩ := h.shape
  have hr := of_decide_eq_true hf
  have CF : Hid (∀ w, Calls Try.prog 12 #[.int .i64 (cs.length : Int)] w fun e w' => e = .returned (.bool true) ∧ w = w') := hid (fun w => by
    have h := fits_any cs.length w (by omega) (by omega)
    rw [hf] at h
    exact h)
  have CC := hid (sclone_any _ cs w h ho (by omega) (by omega))
  have HO := hid ho
  have HP : Hid (0 < cs.length) := hid (by omega)
  clear h ho hf hr
  go_enter Try.func17, Try.ntmps17
  go_wp2_with fail
  refine (CF.out _).mono ?_
  rintro e w1 ⟨rfl, rfl⟩
  go_wp2_with fail
  refine CC.out.mono ?_
  rintro e w1 ⟨g, cp, rest, rfl, hg, hb, hn, hm, k1⟩
  have HS := hid (SkAt.mk' HO.out HP.out hb hn hm)
  have K1 := hid (k1.alloc (.cells #[.slice (some ⟨g, 0, none⟩) cs.length cp] 77))
  have L1 := hid k1.size
  have HG := hid hg
  clear hg hb k1 hn hm CC CF
  go_wp2
  go_ret2
  exact ⟨_, g, rfl, HS.out, L1.out, HG.out, K1.out⟩
set_option maxHeartbeats 400000 in
theorem from_no (v : Value) (cs : List Cel) (w : World) (h : RowsSl cl c0 18 w v cs) (hl : (cs.length : Int) < 9223372036854775808) (hf : fitB cs.length = false) :
    Calls Try.prog 17 #[v] w fun e w' => e = .returned (.tuple #[.pointer none, .int .i64 2]) ∧ w = w' := by
  obtain ⟨y, d, rfl⟩ := h.shape
  have CF : Hid (∀ w, Calls Try.prog 12 #[.int .i64 (cs.length : Int)] w fun e w' => e = .returned (.bool false) ∧ w = w') := hid (fun w => by
    have h := fits_any cs.length w (by omega) hl
    rw [hf] at h
    exact h)
  clear h hl hf
  go_enter Try.func17, Try.ntmps17
  go_wp2_with fail
  refine (CF.out _).mono ?_
  rintro e w1 ⟨rfl, rfl⟩
  go_wp2
  go_ret2
  exact ⟨rfl, rfl⟩

end Go.Proofs.Yteedceepoindeaa
