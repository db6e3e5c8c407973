/-
  Layer 2: the walk of PenWords. Condition: what an int is.
-/
import Derived.Test.YtfbpaakgifnmaaaWorC
import Derived.Test.YtfbpaakgifnmaaaLawStops
import Derived.Test.YtfbpaakgifnmaaaRefI
import Derived.Deep.CutBlock
import Derived.Deep.DeepCutAuto
namespace Go.Proofs.Ytfbpaakgifnmaaa
open Go.RowKit

theorem row_at {w : World} {base e n : Nat} {v : Value} {xs : List Value} (h : w.ownsRow base e 1 v n xs) (j : Nat) (hj : j < n) : ∃ b c, v = .slice (some ⟨b, 0, none⟩) n c ∧ w.cell? ⟨b, j, none⟩ = xs[j]? := by
  rcases h.2 with ⟨rfl, h0⟩ | ⟨g, cap, cur, rfl, hrest⟩
  · omega
  · exact ⟨g, cap, rfl, h.cellAt j (by omega)⟩

theorem found_len (v : Value) (zs : List Int) (m : Int) (L : Nat) (hL : L = min m.toNat (wordsN zs)) (w : World) (h : BySl Nb w v zs) (hbig : zs.length ≤ 4096) :
    Calls Try.prog 54 #[v, .int .i64 m] w fun r w' => (∃ x1 c1 x2 c2, r = .returned (.tuple #[.slice x1 L c1, .slice x2 L c2]) ∧ Hid (∀ j, j < L → ∃ b1 b2, x1 = Option.some ⟨b1, 0, none⟩ ∧ x2 = Option.some ⟨b2, 0, none⟩ ∧ w'.cell? ⟨b1, j, none⟩ = Option.some (.int .i64 (offN zs j)) ∧ w'.cell? ⟨b2, j, none⟩ = Option.some (.int .u64 (firstOf (zs.drop (offN zs j))).1))) ∧ Kp Nb w w' := by
  refine (callsIn_wide.1 (found_in 3 (Nat.le_refl _) v zs m w h hbig)).mono ?_
  rintro r w' ⟨v1, v2, rfl, o1, o2, hB⟩
  have hlen : ((wordsL zs).take m.toNat).length = L := by unfold wordsL; rw [List.length_take, wordsTo_length, hL]
  rw [hlen] at o1 o2
  rw [flat1] at o1
  rw [flat2U] at o2
  obtain ⟨x1, c1, rfl⟩ := own_slice o1
  obtain ⟨x2, c2, rfl⟩ := own_slice o2
  refine ⟨⟨x1, c1, x2, c2, rfl, fun j hj => ?_⟩, Kp.of_below hB⟩
  obtain ⟨b1, d1, e1, q1⟩ := row_at o1 j hj
  obtain ⟨b2, d2, e2, q2⟩ := row_at o2 j hj
  injection e1 with e1
  injection e2 with e2
  have hg : ((wordsL zs).take m.toNat)[j]? = Option.some (wordAt zs j) := by
    unfold wordsL
    rw [List.getElem?_take_of_lt (by omega), wordsTo_get _ _ _ (by omega)]
  refine ⟨b1, b2, e1, e2, ?_, ?_⟩
  · rw [q1, List.getElem?_map, List.getElem?_map, hg]; rfl
  · rw [q2, List.getElem?_map, List.getElem?_map, hg]; rfl

def wclampZ (m : Int) : Int := max 0 (min m 5000)

set_option maxRecDepth 100000 in
set_option maxHeartbeats 2000000 in
theorem words_walk (v : Value) (zs : List Int) (m : Int) (w : World) (h : BySl Nb w v zs) :
    Calls Try.prog 9 #[v, .int .i64 m] w fun e w' => e = .returned (.bool true) ∧ Kp Nb w w' := by
  obtain ⟨y, d, rfl⟩ := bysl_shape h
  have H := hid h
  obtain ⟨K, hK⟩ : ∃ K, K = wclampZ m := ⟨_, rfl⟩
  have hK0 : 0 ≤ K ∧ K ≤ 5000 := by rw [hK]; unfold wclampZ; omega
  have HK := hid hK
  have HK0 := hid hK0
  clear h hK hK0
  go_enter Try.func9, Try.ntmps9
  go_wp2_with fail
  refine (first2_any _).mono ?_
  rintro e w1 ⟨rfl, k1⟩
  have K1 := hid k1
  have H1 := hid (H.out.kept k1 (fun _ h => h))
  clear k1
  by_cases hb : 2000 < zs.length
  · go_wp2
    go_ret
    exact ⟨rfl, K1.out⟩
  · have HZ : Hid (zs.length ≤ 2000) := by unfold Hid; omega
    go_upto_region 5 with fail
    go_cut [5] (fun s5 wx => s5 = .int .i64 K ∧ wx = w1)
    case first =>
      go_wp2
      all_goals
        go_meet
        exact ⟨congrArg (Value.int .i64) (by have := HK.out; unfold wclampZ at this; omega), rfl⟩
    case rest =>
      obtain ⟨rfl, rfl⟩ := hcut
      obtain ⟨L, hL⟩ : ∃ L : Nat, L = min K.toNat (wordsN zs) := ⟨_, rfl⟩
      have HL := hid hL
      clear hL hb
      go_wp2_with fail
      refine (found_len _ zs K L HL.out _ H1.out (by have := HZ.out; omega)).mono ?_
      rintro e w2 ⟨⟨x1, c1, x2, c2, rfl, HR⟩, k2⟩
      have hcv : (convert 42 9 (.slice y zs.length d)).run Try.prog w2 = .ok (.string (st zs)) w2 := conv_any (H1.out.kept k2 (fun _ h => h))
      have K2 := hid (K1.out.trans k2 (fun _ _ h => h))
      obtain ⟨Sz, hSz⟩ : ∃ Sz, Sz = st zs := ⟨_, rfl⟩
      rw [← hSz] at hcv
      have HSZ := hid hSz
      clear k2 hSz
      go_wp2
      obtain ⟨X, hX⟩ : ∃ X, X = w2.heap.size := ⟨_, rfl⟩
      have hRA : RefAt (w2.alloc (.cells #[.string Sz, .int .i64 0] 71)) X zs 0 := by unfold RefAt; rw [← HSZ.out, hX]; exact Blk.new w2 _ _
      have hKA : Kp (Jb X) w2 (w2.alloc (.cells #[.string Sz, .int .i64 0] 71)) := (Kp.refl _ w2).alloc _
      obtain ⟨w3, hw3⟩ : ∃ w3, w3 = w2.alloc (.cells #[.string Sz, .int .i64 0] 71) := ⟨_, rfl⟩
      rw [← hw3] at hRA hKA ⊢
      rw [← hX]
      have HRA := hid hRA
      have HKA := hid hKA
      have HX := hid hX
      clear hw3 hX hRA hKA hcv HSZ
      go_loopw [9] (fun i wr => ∃ j : Nat, j ≤ L ∧ i = .int .i64 j ∧ Hid (RefAt wr X (zs.drop (offN zs j)) 0) ∧ Hid (Kp (Jb X) w2 wr)) (fun i _ => L + 1 - (intOf i).toNat)
      case atStart => exact ⟨0, Nat.zero_le _, rfl, by exact HRA.out, HKA⟩
      case round =>
        clear HRA HKA
        obtain ⟨j, hj, rfl, HR0, HKR⟩ := hrel
        have hjw : j ≤ wordsN zs := by have := HL.out; omega
        have ho := wordsN_le_of hjw
        have hz := H1.out.1.drop (offN zs j)
        have hrg := firstOf_range (zs.drop (offN zs j)) hz
        have hlen : (zs.drop (offN zs j)).length = zs.length - offN zs j := List.length_drop
        have CN := hid (refi_number X (zs.drop (offN zs j)) 0 18446744073709551615 wr HR0.out hz)
        have c0 := Blk.cell HR0.out 0
        have c1 := Blk.cell HR0.out 1
        simp only [List.getElem?_cons_zero, List.getElem?_cons_succ] at c0 c1
        obtain ⟨Sd, hSd⟩ : ∃ S, S = st (zs.drop (offN zs j)) := ⟨_, rfl⟩
        rw [← hSd] at c0
        obtain ⟨o, hoo⟩ : ∃ o, o = offN zs j := ⟨_, rfl⟩
        obtain ⟨M, hM⟩ : ∃ M, M = zs.length - offN zs j := ⟨_, rfl⟩
        have hsd : Sd.size = M := by rw [hSd, st_size, hlen, hM]
        have hplace : (zs.length : Int) - (M : Int) = (o : Int) := by omega
        have hM2 : M ≤ 2000 := by have := HZ.out; omega
        have hzl : zs.length ≤ 2000 := HZ.out
        cases hok : okN zs j with
        | false =>
          have hjL : L = j := by
            have hj2 : j = wordsN zs := by
              rcases Nat.lt_or_ge j (wordsN zs) with h | h
              · rw [okN_lt h] at hok; cases hok
              · omega
            have := HL.out
            omega
          have hne := okN_not hok
          have hrd : readN (zs.drop (offN zs j)) 0 18446744073709551615 = (0, [], (firstOf (zs.drop (offN zs j))).2.2) := by
            unfold readN
            rw [if_neg (by decide), if_pos hne]
          rw [hrd] at CN
          have he2 := firstOf_err _ hne
          obtain ⟨fe, hfe⟩ : ∃ z, z = (firstOf (zs.drop (offN zs j))).2.2 := ⟨_, rfl⟩
          rw [← hfe] at CN he2
          subst hjL
          clear hrd hfe hne hok hlen hM hoo hSd hrg hz ho hjw
          go_wp2_with fail
          refine CN.out.mono ?_
          rintro e w4 ⟨rfl, h4, k4⟩
          have c4 := Blk.cell h4 1
          simp only [List.getElem?_cons_zero, List.getElem?_cons_succ] at c4
          have HKF := hid (K2.out.trans (HKR.out.trans k4 (fun i hi h => h)) (fun i hi h => by have := HX.out; have := K2.out.size; unfold Jb at h; omega))
          clear h4 k4 c0 c1
          rcases he2 with he2 | he2
          all_goals
            subst he2
            go_wp2
            go_ret
            exact ⟨rfl, HKF.out⟩
        | true =>
          have hz0 := okN_spec hok
          have hst := off_step hok ho.2
          have hrd : readN (zs.drop (offN zs j)) 0 18446744073709551615 = ((firstOf (zs.drop (offN zs j))).1, zs.drop (offN zs (j + 1)), 0) := by
            unfold readN
            rw [if_neg (by decide), if_neg (by rw [hz0]; decide), if_neg (by omega), List.drop_drop]
            rfl
          rw [hrd] at CN
          have hjw' : j < wordsN zs := by
            rcases Nat.lt_or_ge j (wordsN zs) with h | h
            · exact h
            · obtain rfl : j = wordsN zs := by omega
              rw [okN_end] at hok
              cases hok
          obtain ⟨u, hu⟩ : ∃ u, u = (firstOf (zs.drop (offN zs j))).1 := ⟨_, rfl⟩
          rw [← hu] at CN
          by_cases hjK : (j : Int) < K
          · have hjL : j < L := by have := HL.out; omega
            obtain ⟨b1, b2, rfl, rfl, g1, g2⟩ := HR.out j hjL
            rw [← hoo] at g1
            rw [← hu] at g2
            have l1 := World.block_lt_of_cell? w2 _ g1
            have l2 := World.block_lt_of_cell? w2 _ g2
            have hd1 : decide ((j : Int) ≥ K) = false := decide_eq_false (by omega)
            have hd2 : decide ((j : Int) ≥ (L : Int)) = false := decide_eq_false (by omega)
            have HJL := hid hjL
            have hj5 : (j : Int) < 5000 := by have := HK0.out; omega
            clear hrd hz0 hok hlen hM hoo hSd hrg hz ho hjw hjw' hu hst
            go_wp2_with fail
            refine CN.out.mono ?_
            rintro e w4 ⟨rfl, h4, k4⟩
            have c4 := Blk.cell h4 1
            simp only [List.getElem?_cons_zero, List.getElem?_cons_succ] at c4
            have kk := HKR.out.trans k4 (fun i hi h => h)
            have q1 := kk.cell g1 (fun h => by have := HX.out; have h' : b1 = X := h; omega)
            have q2 := kk.cell g2 (fun h => by have := HX.out; have h' : b2 = X := h; omega)
            have HKK := hid kk
            have H4 := hid h4
            clear h4 k4 kk c0 c1 g1 g2 l1 l2
            go_wp2
            all_goals
              go_roundw
              case rel => exact ⟨j + 1, HJL.out, by go_num, H4, HKK⟩
              case measure => have := HJL.out; simp [intOf]; omega
          · have hjL : L = j := by have := HL.out; have := HK0.out; omega
            have hd1 : decide ((j : Int) ≥ K) = true := decide_eq_true (by omega)
            subst hjL
            clear hrd hz0 hok hlen hM hoo hSd hrg hz ho hjw hjw' hu hst
            go_wp2_with fail
            refine CN.out.mono ?_
            rintro e w4 ⟨rfl, h4, k4⟩
            have c4 := Blk.cell h4 1
            simp only [List.getElem?_cons_zero, List.getElem?_cons_succ] at c4
            have HKF := hid (K2.out.trans (HKR.out.trans k4 (fun i hi h => h)) (fun i hi h => by have := HX.out; have := K2.out.size; unfold Jb at h; omega))
            clear h4 k4 c0 c1
            go_wp2
            go_ret
            exact ⟨rfl, HKF.out⟩

end Go.Proofs.Ytfbpaakgifnmaaa
