/-
  Layer 19: frames: the walk of Read. Conditions: bytes; fewer than 2^46 of them.
-/
import Derived.Test.YtmgmghlflldepaaFrD
namespace Go.Proofs.Ytmgmghlflldepaa
open Go.RowKit

/-- The frame that bytes are, the error. -/
def readF (zs : List Int) : Int × List Int × Int :=
  if (nextF zs).2.2.2 = 0 then (if (nextF zs).2.2.1 < zs.length then (0, [], 13) else ((nextF zs).1, (nextF zs).2.1, 0)) else (0, [], (nextF zs).2.2.2)

set_option maxRecDepth 100000 in
set_option maxHeartbeats 8000000 in
theorem fread_any (v : Value) (zs : List Int) (w : World) (hv : BySl Nb w v zs) (hbig : zs.length ≤ 70368744177664) :
    Calls Try.prog 10 #[v] w fun e w' => ∃ b, e = .returned (.tuple #[frV (readF zs).1 b, .int .i64 (readF zs).2.2]) ∧ BySl Nb w' b (readF zs).2.1 ∧ Kp Nb w w' := by
  obtain ⟨y, d, rfl⟩ := hv.shp
  obtain ⟨N, hN⟩ : ∃ N, nextF zs = N := ⟨_, rfl⟩
  have HRd : Hid (readF zs = if N.2.2.2 = 0 then (if N.2.2.1 < zs.length then (0, [], 13) else (N.1, N.2.1, 0)) else (0, [], N.2.2.2)) := hid (by unfold readF; rw [hN])
  obtain ⟨R0, hR0⟩ : ∃ N, N = w.heap.size := ⟨_, rfl⟩
  obtain ⟨W, hW⟩ : ∃ W, W = w.alloc (.cells (frL 0 (.slice none 0 0)).toArray 24) := ⟨_, rfl⟩
  have HR0 : Hid (Blk W R0 24 (frL 0 (.slice none 0 0))) := hid (by rw [hW, hR0]; exact Blk.new _ _ _)
  have K0 : Hid (Kp Nb w W) := hid (by rw [hW]; exact (Kp.refl Nb w).alloc _)
  have LR0 : Hid (w.heap.size ≤ R0) := hid (Nat.le_of_eq hR0.symm)
  have CN : Hid (Calls Try.prog 23 #[.slice y zs.length d] W fun e w' => ∃ b, e = .returned (.tuple #[frV N.1 b, .int .i64 N.2.2.1, .int .i64 N.2.2.2]) ∧ (BySl Nb w' b N.2.1 ∧ T8 w' b) ∧ Kp Nb W w') := hid (by
    rw [← hN]
    exact fnext_any _ zs W (hv.kept K0.out (fun _ h => h)) hbig)
  obtain ⟨L, hL⟩ : ∃ L, zs.length = L := ⟨_, rfl⟩
  rw [hL] at CN HRd ⊢
  obtain ⟨k, bs, sz, er⟩ := N
  dsimp only at CN HRd
  clear hv hbig hN hL
  go_enter Try.func10, Try.ntmps10
  go_upto_region 1 with fail
  rw [show w.alloc (.cells #[.int .i64 0, .slice none 0 0] 24) = W from hW.symm, ← hR0]
  clear hW hR0
  go_wp2_with fail
  refine CN.out.mono ?_
  rintro e w2 ⟨b, rfl, ⟨b2, -⟩, k2⟩
  obtain ⟨yb, db, rfl⟩ := b2.shp
  obtain ⟨R8, hR8⟩ : ∃ N, N = w2.heap.size := ⟨_, rfl⟩
  obtain ⟨W6, hW6⟩ : ∃ W, W = w2.alloc (.cells (frL k (.slice yb bs.length db)).toArray 24) := ⟨_, rfl⟩
  have k6 : Kp Nb w2 W6 := by rw [hW6]; exact (Kp.refl Nb w2).alloc _
  have H86 : Hid (Blk W6 R8 24 (frL k (.slice yb bs.length db))) := hid (by rw [hW6, hR8]; exact Blk.new _ _ _)
  have B6 := hid (b2.kept k6 (fun _ h => h))
  have HR6 := hid ((HR0.out.kept k2 (fun h => h)).kept k6 (fun h => h))
  have KN6 := hid ((K0.out.trans k2 (fun _ _ h => h)).trans k6 (fun _ _ h => h))
  have TH := hid (HR6.out.there 0 2 (Nat.le_refl _))
  clear k6 k2 b2 HR0 K0 CN
  go_upto_region 2 with fail
  rw [show w2.alloc (.cells #[.int .i64 k, .slice yb bs.length db] 24) = W6 from hW6.symm, ← hR8]
  clear hW6 hR8
  by_cases he : er = 0
  · by_cases hs : sz < (L : Int)
    · have RE : Hid (readF zs = (0, [], 13)) := hid (by rw [HRd.out, if_pos he, if_pos hs])
      have d1 : (er == 0) = true := by simpa using he
      have d2 : decide (sz < (L : Int)) = true := decide_eq_true hs
      have H9 : Hid (Blk (W6.setCells R0 0 (frL 0 (.slice none 0 0))) R0 24 (frL 0 (.slice none 0 0))) := hid (row_set HR6.out rfl)
      have K9 : Hid (Kp Nb w (W6.setCells R0 0 (frL 0 (.slice none 0 0)))) := hid (Kp.setCells (fun h => absurd h (Nat.not_lt.2 LR0.out)) _ _ _ KN6.out)
      clear he hs
      go_wp2_with (refine wpList_store_mid (by rfl) 24 (.tmp 2) (.tmp 23) (by rfl) R0 0 (frL 0 (.slice none 0 0)).toArray (by rfl) (by rfl) TH.out fr_info (all_oneCell_toArray (frL_one _ _)) ?_)
      refine bodyPost_ret (results_ct rfl _ R0 (by rfl) (frV 0 (.slice none 0 0)) (fr_loadVar H9.out)) rfl ?_
      refine ⟨.slice none 0 0, ?_, ?_, K9.out⟩
      · rw [RE.out]; rfl
      · rw [RE.out]; exact BySl.none _
    · have RE : Hid (readF zs = (k, bs, 0)) := hid (by rw [HRd.out, if_pos he, if_neg hs])
      have d1 : (er == 0) = true := by simpa using he
      have d2 : decide (sz < (L : Int)) = false := decide_eq_false hs
      have d3 : (er != 0) = false := by simpa using he
      have c80 := H86.out.cell 0
      have c81 := H86.out.cell 1
      simp only [List.getElem?_cons_zero, List.getElem?_cons_succ] at c80 c81
      have H9 : Hid (Blk (W6.setCells R0 0 (frL k (.slice yb bs.length db))) R0 24 (frL k (.slice yb bs.length db))) := hid (row_set HR6.out rfl)
      have kR : Kp (Jb R0) W6 (W6.setCells R0 0 (frL k (.slice yb bs.length db))) := Kp.setCells (S := Jb R0) (fun _ => show R0 = R0 from rfl) _ _ _ (Kp.refl _ W6)
      have K9 : Hid (Kp Nb w (W6.setCells R0 0 (frL k (.slice yb bs.length db)))) := hid (KN6.out.trans kR (fun i hi h => by have h' : i = R0 := h; have := LR0.out; omega))
      have B9 : Hid (BySl Nb (W6.setCells R0 0 (frL k (.slice yb bs.length db))) (.slice yb bs.length db) bs) := hid (by_beside B6.out HR6.out (by intro z; simp) (by intro z; simp) kR)
      clear he hs kR
      go_wp2_with (refine wpList_store_mid (by rfl) 24 (.tmp 2) (.tmp 25) (by rfl) R0 0 (frL k (.slice yb bs.length db)).toArray (by rfl) (by rfl) TH.out fr_info (all_oneCell_toArray (frL_one _ _)) ?_)
      refine bodyPost_ret (results_ct rfl _ R0 (by rfl) (frV k (.slice yb bs.length db)) (fr_loadVar H9.out)) rfl ?_
      refine ⟨.slice yb bs.length db, ?_, ?_, K9.out⟩
      · rw [RE.out]; rfl
      · rw [RE.out]; exact B9.out
  · have RE : Hid (readF zs = (0, [], er)) := hid (by rw [HRd.out, if_neg he])
    have d1 : (er == 0) = false := by simpa using he
    have d3 : (er != 0) = true := by simpa using he
    have H9 : Hid (Blk (W6.setCells R0 0 (frL 0 (.slice none 0 0))) R0 24 (frL 0 (.slice none 0 0))) := hid (row_set HR6.out rfl)
    have K9 : Hid (Kp Nb w (W6.setCells R0 0 (frL 0 (.slice none 0 0)))) := hid (Kp.setCells (fun h => absurd h (Nat.not_lt.2 LR0.out)) _ _ _ KN6.out)
    clear he
    go_wp2_with (refine wpList_store_mid (by rfl) 24 (.tmp 2) (.tmp 23) (by rfl) R0 0 (frL 0 (.slice none 0 0)).toArray (by rfl) (by rfl) TH.out fr_info (all_oneCell_toArray (frL_one _ _)) ?_)
    refine bodyPost_ret (results_ct rfl _ R0 (by rfl) (frV 0 (.slice none 0 0)) (fr_loadVar H9.out)) rfl ?_
    refine ⟨.slice none 0 0, ?_, ?_, K9.out⟩
    · rw [RE.out]; rfl
    · rw [RE.out]; exact BySl.none _

end Go.Proofs.Ytmgmghlflldepaa
