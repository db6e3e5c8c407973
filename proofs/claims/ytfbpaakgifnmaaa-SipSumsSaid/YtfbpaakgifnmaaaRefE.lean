/-
  Walks of the document's own mark for layer 1: Eight, Mark. Condition: fewer than 2^62 bytes.
-/
import Derived.Test.YtfbpaakgifnmaaaRefH
import Derived.Test.YtfbpaakgifnmaaaRefB
namespace Go.Proofs.Ytfbpaakgifnmaaa
open Go.RowKit

theorem bits_range (o : BinOp) (a b : Int) (h : o = .xor) : 0 ≤ bits o .u64 a b ∧ bits o .u64 a b < 18446744073709551616 := by
  subst h
  unfold bits
  show 0 ≤ IntKind.u64.wrap _ ∧ IntKind.u64.wrap _ < _
  rw [IntKind.wrap_u64]
  omega
theorem hash_range (a b : Int) (zs : List Int) : 0 ≤ hash a b zs ∧ hash a b zs < 18446744073709551616 := bits_range .xor _ _ rfl

def eightOf (x : Int) : List Int := (List.range 8).map (byteOf x)
def EightR (x : Int) (w : World) (v s i : Value) (wr : World) : Prop :=
  ∃ k : Nat, k ≤ 8 ∧ i = .int .i64 k ∧ v = .int .u64 (x / 2 ^ (8 * k)) ∧ s = .string (st ((eightOf x).drop (8 - k))) ∧ Hid (Kp Nb w wr)

theorem eight_step (x : Int) : ∀ k, k < 8 → (eightOf x).drop (8 - (k + 1)) = (x / 2 ^ (8 * k) % 256) :: (eightOf x).drop (8 - k)
  | 0, _ => rfl | 1, _ => rfl | 2, _ => rfl | 3, _ => rfl | 4, _ => rfl | 5, _ => rfl | 6, _ => rfl | 7, _ => rfl

set_option maxRecDepth 100000 in
set_option maxHeartbeats 400000 in
theorem ref_eight (x : Int) (w : World) (h0 : 0 ≤ x) (h1 : x < 18446744073709551616) :
    Calls Try.prog 56 #[.int .u64 x] w fun e w' => e = .returned (.string (st (eightOf x))) ∧ Kp Nb w w' := by
  have H0 := hid h0
  have H1 := hid h1
  clear h0 h1
  go_enter Try.func56, Try.ntmps56
  go_wp2_with fail
  go_loopw [0, 3, 4] (EightR x w) (fun _ _ i _ => 8 - (intOf i).toNat)
  case atStart => exact ⟨0, Nat.zero_le _, rfl, by simp, rfl, Kp.refl Nb w⟩
  case round =>
    obtain ⟨k, hk, rfl, rfl, rfl, hkp⟩ := hrel
    by_cases hlt : k < 8
    · obtain ⟨X, hX⟩ : ∃ X, X = x / 2 ^ (8 * k) := ⟨_, rfl⟩
      have hX0 : 0 ≤ X := by rw [hX]; exact Int.ediv_nonneg H0.out (Int.pow_nonneg (by decide))
      have hX1 : X < 18446744073709551616 := by
        have h2 : x / 2 ^ (8 * k) ≤ x := Int.ediv_le_self _ H0.out
        have := H1.out
        omega
      have hn : X / 256 = x / 2 ^ (8 * (k + 1)) := by
        rw [hX, Int.ediv_ediv_of_nonneg (Int.pow_nonneg (by decide)), show (2 : Int) ^ (8 * (k + 1)) = 2 ^ (8 * k) * 256 from by rw [show 8 * (k + 1) = 8 * k + 8 from by omega, Int.pow_add]; rfl]
      have hs := eight_step x k hlt
      rw [← hX] at hs ⊢
      have hc := conv_one wr (X % 256) (by omega) (by omega)
      obtain ⟨S, hS⟩ : ∃ S, S = st ((eightOf x).drop (8 - k)) := ⟨_, rfl⟩
      have hSz : S.size ≤ 8 := by rw [hS, st_size, List.length_drop]; unfold eightOf; simp
      have hSt : Hid (st [X % 256] ++ S = st ((eightOf x).drop (8 - (k + 1)))) := by rw [hs, hS]; unfold Hid; rw [← st_append]; rfl
      have g2 : ¬ (9223372036854775807 < (st [X % 256]).size + S.size) := by rw [st_size]; simp only [List.length_cons, List.length_nil]; omega
      rw [← hS]
      have HR := hid (show EightR x w (.int .u64 (X / 256)) (.string (st [X % 256] ++ S)) (.int .i64 ((k : Int) + 1)) (wr.alloc (.cells #[.int .u8 (X % 256)] 5)) from
        ⟨k + 1, by omega, by go_num, by rw [hn], by rw [hSt.out], hkp.out.alloc _⟩)
      clear hX hn hs hS hSt
      go_wp2
      exact ⟨HR.out, by simp [intOf]; omega⟩
    · obtain rfl : k = 8 := by omega
      go_wp2
      go_ret
      exact ⟨rfl, hkp.out⟩

def tCells (T : List Int) (k : Nat) : List Value := (T.take k ++ List.replicate (16 - k) 0).map (Value.int .u8)
theorem tCells_succ (T : List Int) (hT : T.length = 16) (k : Nat) (hk : k < 16) : (tCells T k).set k (.int .u8 (T[k]?.getD 0)) = tCells T (k + 1) := by
  unfold tCells
  rw [← List.map_set, List.set_append_right _ _ (by rw [List.length_take]; omega), List.length_take, Nat.min_eq_left (by omega), Nat.sub_self, show 16 - k = (16 - (k + 1)) + 1 from by omega, List.replicate_succ, List.set_cons_zero, take_snoc T k (by omega), List.append_assoc]
  rfl
theorem tCells_get (T : List Int) (hT : T.length = 16) (k : Nat) (hk : k < 16) : ∃ u, (tCells T k)[k]? = some u := by
  have : k < (tCells T k).length := by unfold tCells; simp; omega
  exact ⟨_, List.getElem?_eq_getElem this⟩
theorem eightOf_bytes (x : Int) : IsBytes (eightOf x) := by
  refine IsBytes.of fun z hz => ?_
  unfold eightOf at hz
  obtain ⟨i, _, rfl⟩ := List.mem_map.1 hz
  unfold byteOf
  omega
theorem eightOf_length (x : Int) : (eightOf x).length = 8 := by unfold eightOf; simp
def TmR (T : List Int) (w : World) (R : Nat) (i : Value) (wr : World) : Prop :=
  ∃ k : Nat, k ≤ 16 ∧ i = .int .i64 k ∧ Hid (Blk wr R 32 (markCells 0 0 0)) ∧ Hid (Blk wr (R + 1) 32 (tCells T k)) ∧ Hid (Kp Nb w wr)

set_option maxRecDepth 100000 in
set_option maxHeartbeats 1000000 in
theorem ref_mark (zs : List Int) (w : World) (hz : IsBytes zs) (hl : zs.length < 4611686018427387904) :
    Calls Try.prog 18 #[.string (st zs)] w fun e w' => e = .returned (markVal (markA zs) (markB zs)) ∧ Kp Nb w w' := by
  have HZ := hid hz
  have HL := hid hl
  clear hz hl
  go_enter Try.func18, Try.ntmps18
  go_wp2_with fail
  refine (ref_seed 1 _).mono ?_
  rintro e w1 ⟨rfl, k1⟩
  have HB0 : Hid (Blk w1 w.heap.size 32 (markCells 0 0 0)) := ((Blk.new w 32 (markCells 0 0 0)).alloc _).kept k1 (fun h => h)
  have HB1 : Hid (Blk w1 (w.heap.size + 1) 32 (markCells 0 0 0)) := by
    have h := Blk.new (w.alloc (.cells (markCells 0 0 0).toArray 32)) 32 (markCells 0 0 0)
    rw [World.size_alloc] at h
    exact h.kept k1 (fun h => h)
  have HK1 := hid ((((Kp.refl Nb w).alloc _).alloc _).trans k1 (fun _ _ h => h))
  clear k1
  go_wp2_with fail
  refine (ref_hash _ _ zs _ HZ.out HL.out).mono ?_
  rintro e w2 ⟨rfl, k2⟩
  have HK2 := hid k2
  clear k2
  go_wp2_with fail
  refine (ref_eight _ _ (hash_range _ _ _).1 (hash_range _ _ _).2).mono ?_
  rintro e w3 ⟨rfl, k3⟩
  have HK3 := hid (HK2.out.trans k3 (fun _ _ h => h))
  clear k3
  go_wp2_with fail
  refine (ref_seed 2 _).mono ?_
  rintro e w4 ⟨rfl, k4⟩
  have HK4 := hid (HK3.out.trans k4 (fun _ _ h => h))
  clear k4
  go_wp2_with fail
  refine (ref_hash _ _ zs _ HZ.out HL.out).mono ?_
  rintro e w5 ⟨rfl, k5⟩
  have HK5 := hid (HK4.out.trans k5 (fun _ _ h => h))
  clear k5
  go_wp2_with fail
  refine (ref_eight _ _ (hash_range _ _ _).1 (hash_range _ _ _).2).mono ?_
  rintro e w6 ⟨rfl, k6⟩
  have HK6 := hid (HK5.out.trans k6 (fun _ _ h => h))
  clear k6 HK2 HK3 HK4 HK5
  obtain ⟨h, hh⟩ : ∃ h, h = hash (seedA 1) (seedB 1) zs := ⟨_, rfl⟩
  obtain ⟨g, hg⟩ : ∃ g, g = hash (seedA 2) (seedB 2) zs := ⟨_, rfl⟩
  obtain ⟨R, hR⟩ : ∃ R, R = w.heap.size := ⟨_, rfl⟩
  rw [← hh, ← hg, ← hR]
  rw [← hR] at HB0 HB1
  have HR := hid (HB0.out.kept HK6.out (fun h => h))
  have HM := hid (HB1.out.kept HK6.out (fun h => h))
  have HK := hid (HK1.out.trans HK6.out (fun _ _ h => h))
  have g2 : ¬ (9223372036854775807 < (st (eightOf h)).size + (st (eightOf g)).size) := by rw [st_size, st_size, eightOf_length, eightOf_length]; omega
  have HH : Hid (markVal (markA zs) (markB zs) = markVal h g) := by rw [hh, hg]; rfl
  have HRR := hid hR
  have hT : Hid (eightOf h ++ eightOf g = markList h g 8) := rfl
  have HS := hid (st_append (eightOf h) (eightOf g))
  clear hh hg hR HB0 HB1 HK1 HK6
  go_wp2_with fail
  rw [← HS.out]
  obtain ⟨T, HT⟩ : ∃ T, T = eightOf h ++ eightOf g := ⟨_, rfl⟩
  have hTl : Hid (T.length = 16) := by rw [HT]; unfold Hid; rw [List.length_append, eightOf_length, eightOf_length]
  have hTb : Hid (IsBytes T) := by rw [HT]; exact (eightOf_bytes h).append (eightOf_bytes g)
  rw [← HT]
  have HTT := hid HT
  clear HT
  go_loopw [5] (TmR T w R) (fun i _ => 16 - (intOf i).toNat)
  case atStart => exact ⟨0, Nat.zero_le _, rfl, HR.out, HM.out, HK.out⟩
  case round =>
    clear HR HM HK
    obtain ⟨k, hk, rfl, hr, hm, hkp⟩ := hrel
    by_cases hlt : k < 16
    · obtain ⟨u, hu⟩ := tCells_get T hTl.out k hlt
      have c1 := (hm.out.cell k).trans hu
      have hf := hm.out.frozen k
      have hix := idx_any T wr hTb.out k (by rw [hTl.out]; exact hlt)
      have HRel := hid (show TmR T w R (.int .i64 ((k : Int) + 1)) (wr.setCell ⟨R + 1, k, none⟩ (.int .u8 (T[k]?.getD 0))) from
        ⟨k + 1, by omega, by go_num, hr.out.other ⟨R + 1, k, none⟩ (by simp) _, by rw [← tCells_succ T hTl.out k hlt]; exact hm.out.set k _, hkp.out.new (by have := HRR.out; omega) _ _⟩)
      clear hu
      obtain ⟨X, hX⟩ : ∃ X, X = T[k]?.getD 0 := ⟨_, rfl⟩
      rw [← hX] at hix HRel
      clear hX
      go_wp2
      exact ⟨HRel.out, by simp [intOf]; omega⟩
    · obtain rfl : k = 16 := by omega
      have HT' := HTT.out
      subst HT'
      have f0 : wr.cell? ⟨R + 1, 0, none⟩ = some (.int .u8 (byteOf h 0)) := hm.out.cell 0
      have f1 : wr.cell? ⟨R + 1, 1, none⟩ = some (.int .u8 (byteOf h 1)) := hm.out.cell 1
      have f2 : wr.cell? ⟨R + 1, 2, none⟩ = some (.int .u8 (byteOf h 2)) := hm.out.cell 2
      have f3 : wr.cell? ⟨R + 1, 3, none⟩ = some (.int .u8 (byteOf h 3)) := hm.out.cell 3
      have f4 : wr.cell? ⟨R + 1, 4, none⟩ = some (.int .u8 (byteOf h 4)) := hm.out.cell 4
      have f5 : wr.cell? ⟨R + 1, 5, none⟩ = some (.int .u8 (byteOf h 5)) := hm.out.cell 5
      have f6 : wr.cell? ⟨R + 1, 6, none⟩ = some (.int .u8 (byteOf h 6)) := hm.out.cell 6
      have f7 : wr.cell? ⟨R + 1, 7, none⟩ = some (.int .u8 (byteOf h 7)) := hm.out.cell 7
      have f8 : wr.cell? ⟨R + 1, 8, none⟩ = some (.int .u8 (byteOf g 0)) := hm.out.cell 8
      have f9 : wr.cell? ⟨R + 1, 9, none⟩ = some (.int .u8 (byteOf g 1)) := hm.out.cell 9
      have f10 : wr.cell? ⟨R + 1, 10, none⟩ = some (.int .u8 (byteOf g 2)) := hm.out.cell 10
      have f11 : wr.cell? ⟨R + 1, 11, none⟩ = some (.int .u8 (byteOf g 3)) := hm.out.cell 11
      have f12 : wr.cell? ⟨R + 1, 12, none⟩ = some (.int .u8 (byteOf g 4)) := hm.out.cell 12
      have f13 : wr.cell? ⟨R + 1, 13, none⟩ = some (.int .u8 (byteOf g 5)) := hm.out.cell 13
      have f14 : wr.cell? ⟨R + 1, 14, none⟩ = some (.int .u8 (byteOf g 6)) := hm.out.cell 14
      have f15 : wr.cell? ⟨R + 1, 15, none⟩ = some (.int .u8 (byteOf g 7)) := hm.out.cell 15
      have z0 : wr.cell? ⟨R, 0, none⟩ = some (.int .u8 0) := hr.out.cell 0
      have z1 : wr.cell? ⟨R, 1, none⟩ = some (.int .u8 0) := hr.out.cell 1
      have z2 : wr.cell? ⟨R, 2, none⟩ = some (.int .u8 0) := hr.out.cell 2
      have z3 : wr.cell? ⟨R, 3, none⟩ = some (.int .u8 0) := hr.out.cell 3
      have z4 : wr.cell? ⟨R, 4, none⟩ = some (.int .u8 0) := hr.out.cell 4
      have z5 : wr.cell? ⟨R, 5, none⟩ = some (.int .u8 0) := hr.out.cell 5
      have z6 : wr.cell? ⟨R, 6, none⟩ = some (.int .u8 0) := hr.out.cell 6
      have z7 : wr.cell? ⟨R, 7, none⟩ = some (.int .u8 0) := hr.out.cell 7
      have z8 : wr.cell? ⟨R, 8, none⟩ = some (.int .u8 0) := hr.out.cell 8
      have z9 : wr.cell? ⟨R, 9, none⟩ = some (.int .u8 0) := hr.out.cell 9
      have z10 : wr.cell? ⟨R, 10, none⟩ = some (.int .u8 0) := hr.out.cell 10
      have z11 : wr.cell? ⟨R, 11, none⟩ = some (.int .u8 0) := hr.out.cell 11
      have z12 : wr.cell? ⟨R, 12, none⟩ = some (.int .u8 0) := hr.out.cell 12
      have z13 : wr.cell? ⟨R, 13, none⟩ = some (.int .u8 0) := hr.out.cell 13
      have z14 : wr.cell? ⟨R, 14, none⟩ = some (.int .u8 0) := hr.out.cell 14
      have z15 : wr.cell? ⟨R, 15, none⟩ = some (.int .u8 0) := hr.out.cell 15
      have hf := hr.out.frozen
      have HRw := hid (Nat.le_of_eq HRR.out.symm)
      go_wp2
      have hRw := HRw.out
      generalize hW : World.setCell _ ⟨R, 15, none⟩ _ = Wf
      have HF : Hid (Blk Wf R 32 (markCells h g 8)) := by rw [← hW]; exact ((((((((((((((((hr.out.set 0 _).set 1 _).set 2 _).set 3 _).set 4 _).set 5 _).set 6 _).set 7 _).set 8 _).set 9 _).set 10 _).set 11 _).set 12 _).set 13 _).set 14 _).set 15 _)
      have HKF : Hid (Kp Nb w Wf) := by rw [← hW]; exact ((((((((((((((((hkp.out.new hRw 0 _).new hRw 1 _).new hRw 2 _).new hRw 3 _).new hRw 4 _).new hRw 5 _).new hRw 6 _).new hRw 7 _).new hRw 8 _).new hRw 9 _).new hRw 10 _).new hRw 11 _).new hRw 12 _).new hRw 13 _).new hRw 14 _).new hRw 15 _)
      clear hW
      have y0 : Wf.cell? ⟨R, 0, none⟩ = some (.int .u8 (byteOf h 0)) := HF.out.cell 0
      have y1 : Wf.cell? ⟨R, 1, none⟩ = some (.int .u8 (byteOf h 1)) := HF.out.cell 1
      have y2 : Wf.cell? ⟨R, 2, none⟩ = some (.int .u8 (byteOf h 2)) := HF.out.cell 2
      have y3 : Wf.cell? ⟨R, 3, none⟩ = some (.int .u8 (byteOf h 3)) := HF.out.cell 3
      have y4 : Wf.cell? ⟨R, 4, none⟩ = some (.int .u8 (byteOf h 4)) := HF.out.cell 4
      have y5 : Wf.cell? ⟨R, 5, none⟩ = some (.int .u8 (byteOf h 5)) := HF.out.cell 5
      have y6 : Wf.cell? ⟨R, 6, none⟩ = some (.int .u8 (byteOf h 6)) := HF.out.cell 6
      have y7 : Wf.cell? ⟨R, 7, none⟩ = some (.int .u8 (byteOf h 7)) := HF.out.cell 7
      have y8 : Wf.cell? ⟨R, 8, none⟩ = some (.int .u8 (byteOf g 0)) := HF.out.cell 8
      have y9 : Wf.cell? ⟨R, 9, none⟩ = some (.int .u8 (byteOf g 1)) := HF.out.cell 9
      have y10 : Wf.cell? ⟨R, 10, none⟩ = some (.int .u8 (byteOf g 2)) := HF.out.cell 10
      have y11 : Wf.cell? ⟨R, 11, none⟩ = some (.int .u8 (byteOf g 3)) := HF.out.cell 11
      have y12 : Wf.cell? ⟨R, 12, none⟩ = some (.int .u8 (byteOf g 4)) := HF.out.cell 12
      have y13 : Wf.cell? ⟨R, 13, none⟩ = some (.int .u8 (byteOf g 5)) := HF.out.cell 13
      have y14 : Wf.cell? ⟨R, 14, none⟩ = some (.int .u8 (byteOf g 6)) := HF.out.cell 14
      have y15 : Wf.cell? ⟨R, 15, none⟩ = some (.int .u8 (byteOf g 7)) := HF.out.cell 15
      refine bodyPost_ret (v := markVal h g) (by simp [results, Try.results18, go_sem, y0, y1, y2, y3, y4, y5, y6, y7, y8, y9, y10, y11, y12, y13, y14, y15]; rfl) rfl ⟨?_, HKF.out⟩
      rw [HH.out]

end Go.Proofs.Ytfbpaakgifnmaaa
