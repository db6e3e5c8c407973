/-
  Layer 10: the walk of Put. Conditions: a mark has sixteen bytes; a check is a number of 64 bits; a right cell; fewer than 2^47 bytes.
-/
import Derived.Test.YtofjkaemakdmeaaCelE
import Derived.Test.YtofjkaemakdmeaaPenD
namespace Go.Proofs.Ytofjkaemakdmeaa
open Go.RowKit

def eightK (k : Int) (i : Nat) : List Int := (List.range 8).map fun j => if j < i then byteOf k j else 0
def eightL (k : Int) : List Int := eightK k 8
theorem eightK_length (k : Int) (i : Nat) : (eightK k i).length = 8 := by simp [eightK]
theorem eightK_succ (k : Int) (i : Nat) (h : i < 8) : (markL (eightK k i)).set i (.int .u8 (byteOf k i)) = markL (eightK k (i + 1)) := by
  unfold markL eightK
  apply List.ext_getElem?
  intro j
  by_cases hij : i = j
  · subst hij
    rw [List.getElem?_set_self (by simp; omega)]
    simp [h]
  · rw [List.getElem?_set_ne hij]
    simp only [List.map_map, List.getElem?_map]
    rcases Nat.lt_or_ge j 8 with hj | hj
    · rw [List.getElem?_range hj]
      simp only [Option.map_some, Function.comp]
      by_cases h1 : j < i
      · rw [if_pos h1, if_pos (by omega)]
      · rw [if_neg h1, if_neg (by omega)]
    · rw [List.getElem?_eq_none (by simpa using hj)]
      rfl
theorem eightK_bytes (k : Int) (i : Nat) : IsBytes (eightK k i) := IsBytes.of fun z hz => by
  unfold eightK at hz
  obtain ⟨j, _, rfl⟩ := List.mem_map.1 hz
  split
  · unfold byteOf; omega
  · omega
theorem penTo_nb {w w' : World} {B : Nat} {v : Value} (k : Kp Nb w w') : PenTo w w' B v v := ⟨k.mono (fun _ _ h => h.elim), .inl rfl⟩
theorem notPb {w w' : World} {B C : Nat} {v v' : Value} (t : PenTo w w' B v v') (h : Hid (¬ Pb B v C)) (hC : C < w.heap.size) : Hid (¬ Pb B v' C) := hid fun hp => by
  rcases hp with hp | hp
  · exact h.out (.inl hp)
  · rcases t.at' with e | e
    · exact h.out (.inr (by rw [← e]; exact hp))
    · have := e C hp; omega
theorem by_markAt {S : Nat → Prop} {w : World} {B t : Nat} {c : Int} {m : List Int} {k : Int} (h : Blk w B t (cellL c m k)) (hm : MarkOk m) (hS : ¬ S B) : BySl S w (.slice (some ⟨B, 1, none⟩) 16 16) m := by
  refine ⟨hm.bytes, .inr ⟨B, 1, 16, by rw [hm.len], by rw [hm.len]; exact Nat.le_refl _, by decide, fun i hi => ?_, fun _ => hS⟩⟩
  exact cell_m h i _ (markL_get m i hi)
theorem by_eight {S : Nat → Prop} {w : World} {B t : Nat} {k : Int} (h : Blk w B t (markL (eightK k 8))) (hS : ¬ S B) : BySl S w (.slice (some ⟨B, 0, none⟩) 8 8) (eightL k) := by
  refine ⟨eightK_bytes k 8, .inr ⟨B, 0, 8, by unfold eightL; rw [eightK_length], by unfold eightL; rw [eightK_length]; exact Nat.le_refl _, by decide, fun i hi => ?_, fun _ => hS⟩⟩
  rw [Nat.zero_add]
  exact (h.cell i).trans (markL_get _ i hi)
def cellBytes (c : Int) (m : List Int) (k : Int) : List Int := numBytes (zigI c) ++ (m ++ eightL k)

def PutR (wa : World) (D C : Nat) (c : Int) (m : List Int) (k : Int) (i : Value) (wr : World) : Prop :=
  ∃ j : Nat, j ≤ 8 ∧ i = .int .i64 j ∧ Hid (Blk wr D 76 (markL (eightK k j))) ∧ Hid (Blk wr C 26 (cellL c m k)) ∧ Hid (Kp (Jb D) wa wr)
set_option maxRecDepth 100000 in
set_option maxHeartbeats 2000000 in
theorem cput_any (B : Nat) (v : Value) (zs : List Int) (c : Int) (m : List Int) (k : Int) (w : World) (h : PenAt w B v zs) (hm : MarkOk m) (hr : crightB c = true) (hl : zs.length + 64 ≤ 140737488355328) :
    Calls Try.prog 21 #[.pointer (some ⟨B, 0, none⟩), cellV c m k] w fun e w' => e = .returned (.bool true) ∧ ∃ v', PenAt w' B v' (zs ++ cellBytes c m k) ∧ PenTo w w' B v v' := by
  have CR : Hid (∀ w, Calls Try.prog 19 #[cellV c m k] w fun e w' => e = .returned (.bool true) ∧ Kp Nb w w') := hid (fun w => by rw [← hr]; exact cright_any c m k w)
  have HL := hid hl
  have HM := hid hm
  have hBl := h.blk.lt
  have hvl : ∀ g, v.ownBlock = some g → g < w.heap.size := fun g hg => (h.own.lt g hg).2
  have HNP : Hid (¬ Pb B v w.heap.size) := hid (fun hp => by
    rcases hp with hp | hp
    · omega
    · exact absurd (hvl _ hp) (Nat.lt_irrefl _))
  obtain ⟨W, hW⟩ : ∃ W, W = w.alloc (.cells (cellL c m k).toArray 26) := ⟨_, rfl⟩
  have k0 : Kp Nb w W := by rw [hW]; exact (Kp.refl Nb w).alloc _
  have HP := hid (h.kept k0 (fun h => h) (fun _ _ h => h))
  have HC : Hid (Blk W w.heap.size 26 (cellL c m k)) := hid (by rw [hW]; exact Blk.new w _ _)
  have TP := hid (penTo_nb (B := B) (v := v) k0)
  have K0 := hid k0
  obtain ⟨d', hu, hd⟩ := cell_under
  have HU := hid hu
  have HI := hid (cell_infoL c m k hm.len)
  clear h hm hr hl hBl hvl k0 hu
  go_enter Try.func21, Try.ntmps21
  go_upto_region 1 with fail
  rw [← hW]
  clear hW
  go_wp2_with (refine wpList_load_mid (by rfl) 26 (.tmp 3) (by rfl) w.heap.size 0 (by rfl) (cellL c m k) d' (range_of HC.out) HU.out hd HI.out ?_)
  refine (CR.out _).mono ?_
  rintro e w1 ⟨rfl, k1⟩
  have HP1 := hid (HP.out.kept k1 (fun h => h) (fun _ _ h => h))
  have HC1 := hid (HC.out.kept k1 (fun h => h))
  have TP1 := hid (TP.out.trans (penTo_nb k1))
  have c0 := cell_c HC1.out
  clear k1 HP HC TP
  go_wp2_with fail
  refine (pen_signed B v zs c _ HP1.out (by have := HL.out; omega)).mono ?_
  rintro e w2 ⟨rfl, v2, h2, t2⟩
  have HP2 := hid h2
  have HC2 := hid (HC1.out.kept t2.kp HNP.out)
  have TP2 := hid (TP1.out.trans t2)
  have HNP2 := notPb t2 HNP HC1.out.lt
  clear h2 t2 HP1 HC1 TP1 c0 HNP
  have hnl := numBytes_length (zigI c) (by unfold zigI bits; show IntKind.u64.wrap _ < _; rw [IntKind.wrap_u64]; omega)
  have HNL := hid hnl
  clear hnl
  go_wp2_with fail
  refine (pen_fixed (S := Nb) B v2 _ _ m _ HP2.out (by_markAt HC2.out HM.out (fun h => h)) (by have := HL.out; have := HM.out.len; have := HNL.out; rw [List.length_append]; omega)).mono ?_
  rintro e w3 ⟨rfl, v3, h3, t3⟩
  have HP3 := hid h3
  have HC3 := hid (HC2.out.kept t3.kp HNP2.out)
  have TP3 := hid (TP2.out.trans t3)
  have HNP3 := notPb t3 HNP2 HC2.out.lt
  clear h3 t3 HP2 HC2 TP2 HNP2
  have HD := hid (Blk.new w3 76 (markL (eightK k 0)))
  have KD := hid ((Kp.refl Nb w3).alloc (.cells (markL (eightK k 0)).toArray 76))
  have HC4 := hid (HC3.out.kept KD.out (fun h => h))
  have HP4 := hid (HP3.out.kept KD.out (fun h => h) (fun _ _ h => h))
  have hD : Hid (w3.heap.size ≠ w.heap.size) := hid (by have := HC3.out.lt; omega)
  have HBD : Hid (¬ Jb w3.heap.size B) := hid (fun h => by have h' : B = w3.heap.size := h; have := HP3.out.lt; omega)
  have HVD : Hid (∀ g, v3.ownBlock = some g → ¬ Jb w3.heap.size g) := hid (fun g hg h => by have h' : g = w3.heap.size := h; have := (HP3.out.own.lt g hg).2; omega)
  obtain ⟨D, hDD⟩ : ∃ D, w3.heap.size = D := ⟨_, rfl⟩
  rw [hDD] at HD hD HBD HVD
  have HDD := hid hDD
  go_wp2
  clear hDD
  obtain ⟨wa, hwa⟩ : ∃ wa, wa = w3.alloc (.cells (markL (eightK k 0)).toArray 76) := ⟨_, rfl⟩
  rw [← hwa] at HD KD HC4 HP4
  rw [show w3.alloc (.cells #[.int .u8 0, .int .u8 0, .int .u8 0, .int .u8 0, .int .u8 0, .int .u8 0, .int .u8 0, .int .u8 0] 76) = wa from hwa.symm]
  clear hwa
  go_loopw [18] (fun i wr => PutR wa D w.heap.size c m k i wr) (fun i _ => 8 - (intOf i).toNat)
  case atStart => exact ⟨0, by omega, rfl, HD, HC4, hid (Kp.refl _ _)⟩
  case round =>
    obtain ⟨j, hj, rfl, HX, HCR, HK⟩ := hrel
    by_cases hlt : j < 8
    · have c0 := cell_k HM.out.len HCR.out
      have c1 := (HX.out.cell j).trans (markL_get _ j (by rw [eightK_length]; exact hlt))
      have f1 := HX.out.frozen j
      have hsh : (0 : Int) ≤ 56 - 8 * (j : Int) := by omega
      have HXN : Hid (Blk (wr.setCell ⟨D, j, none⟩ (.int .u8 (byteOf k j))) D 76 (markL (eightK k (j + 1)))) := hid (by rw [← eightK_succ k j hlt]; exact HX.out.set j _)
      have HCN := hid (HCR.out.other ⟨D, j, none⟩ (fun e => hD.out e.symm) (.int .u8 (byteOf k j)))
      have HKN := hid (HK.out.set j (.int .u8 (byteOf k j)))
      go_wp2
      go_roundw
      case rel => exact ⟨j + 1, by omega, by go_num, HXN, HCN, HKN⟩
      case measure => simp [intOf]; omega
    · obtain rfl : j = 8 := by omega
      have HP5 := hid (HP4.out.kept HK.out HBD.out HVD.out)
      have HK5 : Hid (Kp Nb w3 wr) := hid (KD.out.trans HK.out (fun i hi h => by have h' : i = D := h; have := HDD.out; omega))
      have TP5 := hid (TP3.out.trans (penTo_nb HK5.out))
      go_wp2_with fail
      refine (pen_fixed (S := Nb) B v3 _ _ (eightL k) _ HP5.out (by_eight HX.out (fun h => h)) (by have := HL.out; have := HM.out.len; have := HNL.out; simp only [List.length_append, eightL, eightK_length]; omega)).mono ?_
      rintro e w6 ⟨rfl, v6, h6, t6⟩
      have HP6 := hid h6
      have TP6 := hid (TP5.out.trans t6)
      clear h6 t6
      go_wp2
      go_ret
      exact ⟨rfl, v6, by have h := HP6.out; unfold cellBytes; rw [List.append_assoc, List.append_assoc] at h; exact h, TP6.out⟩

end Go.Proofs.Ytofjkaemakdmeaa
