/-
  Layer 19: the statements' own first. No condition.
-/
import Derived.Test.YtmgmghlflldepaaFrQ
import Derived.Test.YtmgmghlflldepaaVals
import Derived.Lib.SlBytesConst
namespace Go.Proofs.Ytmgmghlflldepaa
open Go.RowKit Go.Shelf
attribute [local go_sem] Oper.semAt_some

theorem ab_bytes : IsBytes [97, 98] := IsBytes.of fun z hz => by simp at hz; omega
theorem right_ab : rightF 3 2 = true := by decide
theorem frame_ab : (frameF 3 [97, 98]).length = 13 := by
  have h := frame_length 3 [97, 98] right_ab
  have : costF ([97, 98] : List Int).length = 13 := by decide
  omega
theorem frame_zero (k : Int) (zs : List Int) : (frameF k zs)[0]?.getD 0 = 71 := by unfold frameF aheadF; simp
theorem by_ab {W : World} {B : Nat} (h : W.heap[B]? = some (.cells #[.int .u8 97, .int .u8 98] 5 (2, 3))) : BySl Nb W (.slice (some ⟨B, 0, none⟩) 2 2) [97, 98] := by
  refine ⟨ab_bytes, .inr ⟨B, 0, 2, rfl, Nat.le_refl _, by decide, fun i hi => ?_, fun _ h => h⟩⟩
  have hi' : i < 2 := hi
  rw [Nat.zero_add]
  unfold World.cell?
  rw [h]
  rcases i with _ | _ | i
  · rfl
  · rfl
  · omega
theorem turn_ab : (readF (turnB (frameF 3 [97, 98]) 12 1)).2.2 = 14 := by
  have h := read_turn 3 [97, 98] 0 1 ab_bytes right_ab (by omega) (by omega)
  have e : ((frameF 3 [97, 98]).length : Int) - 1 - (0 : Nat) = 12 := by rw [frame_ab]; rfl
  rw [e, if_neg (by decide)] at h
  exact h
theorem rt_ab : ∀ g ∈ [((3 : Int), [(97 : Int), 98]), (3, [97, 98])], RtF g := fun g hg => by
  simp at hg
  subst hg
  exact ⟨right_ab, ab_bytes⟩
theorem join_ab : joinF [(3, [97, 98]), (3, [97, 98])] = frameF 3 [97, 98] ++ frameF 3 [97, 98] := by simp [joinF]
theorem at_ab : atF (frameF 3 [97, 98] ++ frameF 3 [97, 98]) 1 = 13 := by
  have h := at_join rt_ab 1 (by decide)
  rw [join_ab] at h
  rw [h]
  show (joinF [(3, [97, 98])]).length = 13
  rw [joinF_cons, joinF_nil, List.append_nil]
  exact frame_ab
theorem fr_ab : frF (frameF 3 [97, 98] ++ frameF 3 [97, 98]) 1 = (3, [97, 98], 13, 0) := by
  have h := fr_join rt_ab 1 (by decide)
  rw [join_ab] at h
  rw [h]
  show ((3 : Int), [(97 : Int), 98], (((frameF 3 [97, 98]).length : Nat) : Int), (0 : Int)) = _
  rw [frame_ab]
  rfl

theorem own_pos {w : World} {base n : Nat} {v : Value} {zs : List Int} (h : w.ownsRow base 5 1 v n (zs.map (Value.int .u8))) (hn : 0 < n) : ∃ g cap, v = .slice (some ⟨g, 0, none⟩) n cap := by
  rcases h.2 with ⟨-, h0⟩ | ⟨g, cap, -, h1, -⟩
  · omega
  · exact ⟨g, cap, h1⟩
theorem frr_load {w : World} {B o : Nat} {k : Int} {v : Value} (h : w.rangeAt B o (frL k v)) : (Instr.loadAt 24 (.pointer (some ⟨B, o, none⟩))).run Try.prog w = .ok (frV k v) w := by
  obtain ⟨d, h1, h2⟩ := fr_under
  exact run_loadAt_mid w B o _ (frL k v) d h h1 h2 (fr_infoL k v)
theorem rows_pos {α : Type} {f : α → List Value} {z : α} {c : Nat} {w : World} {v : Value} {qs : List α} (h : RowsSl f z c w v qs) {n : Nat} (hl : qs.length = n) (hn : 0 < n) : ∃ blk off cap, v = .slice (some ⟨blk, off, none⟩) n cap ∧ n ≤ cap ∧ cap ≤ maxLen ∧ ∀ i, i < n → w.rangeAt blk (off + i * c) (f (qs[i]?.getD z)) := by
  subst hl
  rcases h with ⟨-, rfl⟩ | h
  · simp at hn
  · exact h
theorem rngf_kept {w w' : World} {B o : Nat} {vs : List Value} (h : w.rangeAt B o vs) (k : Kp Nb w w') : w'.rangeAt B o vs := fun j v hv => k.cell (h j v hv) (fun h => h)
theorem by_cell {w : World} {blk cap n : Nat} {zs : List Int} (h : BySl Nb w (.slice (some ⟨blk, 0, none⟩) n cap) zs) (i : Nat) (hi : i < zs.length) : w.cell? ⟨blk, i, none⟩ = some (.int .u8 (zs[i]?.getD 0)) := by
  rcases h.2 with ⟨⟨a, c, e⟩, rfl⟩ | ⟨b, off, c, e, -, -, hb, -⟩
  · simp at hi
  · injection e with e1 e2 e3
    injection e1 with e1
    injection e1 with e1 e4
    subst e1 e4
    have := hb i hi
    rw [Nat.zero_add] at this
    exact this

set_option maxRecDepth 100000 in
set_option maxHeartbeats 8000000 in
theorem ffirst_any (w : World) : Calls Try.prog 7 #[] w fun e w' => e = .returned (.bool true) ∧ Kp Nb w w' := by
  obtain ⟨F, hF⟩ : ∃ F, frameF 3 [97, 98] = F := ⟨_, rfl⟩
  have LF : F.length = 13 := by rw [← hF]; exact frame_ab
  have HLF := hid LF
  have Z0 : Hid (F[0]?.getD 0 = 71) := hid (by rw [← hF]; exact frame_zero _ _)
  have RF : Hid (readF F = (3, [97, 98], 0)) := hid (by rw [← hF]; exact read_frame 3 _ ab_bytes right_ab)
  have RT : Hid ((readF (turnB F 12 1)).2.2 = 14) := hid (by rw [← hF]; exact turn_ab)
  have BF : Hid (IsBytes F) := hid (by rw [← hF]; exact frame_bytes 3 _ ab_bytes right_ab)
  have CP : Hid (∀ v w, BySl Nb w v [97, 98] → Calls Try.prog 13 #[frV 3 v] w fun e w' => ∃ r, e = .returned r ∧ w'.ownsRow w.heap.size 5 1 r 13 (F.map (Value.int .u8)) ∧ Kp Nb w w') := hid (fun v w hv => by
    have h := fput_yes 3 v [97, 98] w hv right_ab
    rw [hF, LF] at h
    exact h)
  have FND : Hid (∀ (xs : List FrE3) (W : World), SpF (F ++ F) xs W → (xs.length = (9 : Int).toNat ∨ (xs.length ≤ (9 : Int).toNat ∧ ¬ okF (F ++ F) xs.length)) → xs.length = 2) := hid (fun xs W h1 h2 => by
    rw [← hF, ← join_ab] at h1 h2
    exact found_join rt_ab h1 (by decide) h2)
  have AT1 : Hid (atF (F ++ F) 1 = 13 ∧ frF (F ++ F) 1 = (3, [97, 98], 13, 0)) := hid (by rw [← hF]; exact ⟨at_ab, fr_ab⟩)
  have CC : Hid (∀ w, Calls Try.prog 15 #[.int .i64 2] w fun e w' => e = .returned (.int .i64 13) ∧ w = w') := hid (fun w => fcost_any 2 w)
  have CR : Hid (∀ y d w, Calls Try.prog 12 #[frV 3 (.slice y 2 d)] w fun e w' => e = .returned (.bool true) ∧ Kp Nb w w') := hid (fun y d w => fright_any 3 y 2 d w)
  have CS : Hid (∀ u v wq, BySl Nb wq u [97, 98] → BySl Nb wq v [97, 98] → Calls Try.prog 14 #[frV 3 u, frV 3 v] wq fun e w' => e = .returned (.bool true) ∧ Kp Nb wq w') := hid (fun u v wq h1 h2 => by
    have h := fsame_any 3 3 u v [97, 98] [97, 98] wq h1 h2
    rw [show sameF 3 3 [97, 98] [97, 98] = true from rfl] at h
    exact h)
  have CRD : Hid (∀ v w, BySl Nb w v F → Calls Try.prog 10 #[v] w fun e w' => ∃ b, e = .returned (.tuple #[frV 3 b, .int .i64 0]) ∧ BySl Nb w' b [97, 98] ∧ Kp Nb w w') := hid (fun v w hv => by
    have h := fread_any v F w hv (by rw [LF]; omega)
    rw [RF.out] at h
    exact h)
  have CTU : Hid (∀ v w, BySl Nb w v F → Calls Try.prog 18 #[v, .int .i64 12, .int .u8 1] w fun e w' => ∃ v', e = .returned v' ∧ BySl Nb w' v' (turnB F 12 1) ∧ Kp Nb w w') := hid (fun v w hv => fturn_any v F 12 1 w hv (by rw [LF]; omega))
  have CRT : Hid (∀ v w, BySl Nb w v (turnB F 12 1) → Calls Try.prog 10 #[v] w fun e w' => ∃ k b n y d, e = .returned (.tuple #[frV k b, .int .i64 14]) ∧ b = .slice y n d ∧ Kp Nb w w') := hid (fun v w hv => by
    refine (fread_any v _ w hv (by rw [turnB_length, LF]; omega)).mono ?_
    rw [RT.out]
    rintro e w' ⟨b, rfl, hb, hk⟩
    obtain ⟨y, d, rfl⟩ := hb.shp
    exact ⟨_, _, _, y, d, rfl, rfl, hk⟩)
  have CAL : Hid (∀ v w, BySl Nb w v (F ++ F) → Calls Try.prog 16 #[v, .int .i64 9] w fun e w' => ∃ v1 v2 xs, e = .returned (.tuple #[v1, v2]) ∧ RowsSl f1F zF3 1 w' v1 xs ∧ RowsSl f2F zF3 2 w' v2 xs ∧ SpF (F ++ F) xs w' ∧ xs.length = 2 ∧ Kp Nb w w') := hid (fun v w hv => by
    refine (fall_rows v (F ++ F) 9 w hv (by rw [List.length_append, LF]; omega)).mono ?_
    rintro e w' ⟨v1, v2, xs, rfl, h1, h2, h3, h4, h5⟩
    exact ⟨v1, v2, xs, rfl, h1, h2, h3, FND.out xs w' h3 h4, h5⟩)
  clear hF
  obtain ⟨N, hN⟩ : ∃ N, w.heap.size = N := ⟨_, rfl⟩
  obtain ⟨W, hW⟩ : ∃ W, W = (w.alloc (.cells #[.int .u8 97, .int .u8 98] 5 (2, 3))).alloc (.cells (frL 3 (.slice (some ⟨N, 0, none⟩) 2 2)).toArray 24) := ⟨_, rfl⟩
  have BA : Hid (BySl Nb W (.slice (some ⟨N, 0, none⟩) 2 2) [97, 98]) := hid (by
    refine by_ab ?_
    rw [hW, ← hN]
    exact (((Kp.refl Nb _).alloc _).heap (by rw [World.size_alloc]; omega) (fun h => h)).trans (World.alloc_heap_new w _))
  have B1 : Hid (Blk W (N + 1) 24 (frL 3 (.slice (some ⟨N, 0, none⟩) 2 2))) := hid (by
    have h := Blk.new (w.alloc (.cells #[.int .u8 97, .int .u8 98] 5 (2, 3))) 24 (frL 3 (.slice (some ⟨N, 0, none⟩) 2 2))
    simp only [World.size_alloc] at h
    rw [hW, ← hN]
    rw [hN] at h ⊢
    exact h)
  have KW : Hid (Kp Nb w W) := hid (by rw [hW]; exact ((Kp.refl Nb w).alloc _).alloc _)
  have hcv : (convert 22 22 (.slice (some ⟨N, 0, none⟩) 2 2)).run Try.prog (w.alloc (.cells #[.int .u8 97, .int .u8 98] 5)) = .ok (.slice (some ⟨N, 0, none⟩) 2 2) (w.alloc (.cells #[.int .u8 97, .int .u8 98] 5 (2, 3))) := by
    rw [← hN]
    exact Lib.run_convert_bytes_const (P := Try.prog) w 22 5 _ 2 2 Try.underlying22 Try.underlying5
  go_enter Try.func7, Try.ntmps7
  go_upto_region 2 with fail
  rw [show (w.alloc (.cells #[.int .u8 97, .int .u8 98] 5 (2, 3))).alloc (.cells #[.int .i64 3, .slice (some ⟨N, 0, none⟩) 2 2] 24) = W from hW.symm]
  clear hW hN
  have b10 := B1.out.cell 0
  have b11 := B1.out.cell 1
  simp only [List.getElem?_cons_zero, List.getElem?_cons_succ] at b10 b11
  go_wp2_with fail
  refine (CP.out _ _ BA.out).mono ?_
  rintro e w2 ⟨r, rfl, ow, k2⟩
  obtain ⟨gb, cb, rfl⟩ := own_pos ow (by decide)
  have BR2 : Hid (BySl Nb w2 (.slice (some ⟨gb, 0, none⟩) 13 cb) F) := hid (BySl.ofOwn (base := W.heap.size) (by rw [HLF.out]; exact ow) BF.out (fun _ _ _ h => h))
  have BA2 := hid (BA.out.kept k2 (fun _ h => h))
  have B12 := hid (B1.out.kept k2 (fun h => h))
  have K2 := hid (KW.out.trans k2 (fun _ _ h => h))
  clear b10 b11 BA B1 KW ow k2 CP hcv LF
  go_wp2_with fail
  refine (CRD.out _ _ BR2.out).mono ?_
  rintro e w3 ⟨b3, rfl, hb3, k3⟩
  obtain ⟨y3, d3, rfl⟩ := hb3.shp
  obtain ⟨M3, hM3⟩ : ∃ N, w3.heap.size = N := ⟨_, rfl⟩
  obtain ⟨W3, hW3⟩ : ∃ W, W = w3.alloc (.cells (frL 3 (.slice y3 2 d3)).toArray 24) := ⟨_, rfl⟩
  have k3' : Kp Nb w2 W3 := by rw [hW3]; exact k3.alloc _
  have BM3 : Hid (Blk W3 M3 24 (frL 3 (.slice y3 2 d3))) := hid (by rw [hW3, ← hM3]; exact Blk.new w3 _ _)
  have BB3 : Hid (BySl Nb W3 (.slice y3 2 d3) [97, 98]) := hid (hb3.kept (by rw [hW3]; exact (Kp.refl Nb w3).alloc _) (fun _ h => h))
  have BR3 := hid (BR2.out.kept k3' (fun _ h => h))
  have BA3 := hid (BA2.out.kept k3' (fun _ h => h))
  have B13 := hid (B12.out.kept k3' (fun h => h))
  have K3 := hid (K2.out.trans k3' (fun _ _ h => h))
  clear k3 k3' hb3 BR2 BA2 B12 K2 CRD
  go_upto_region 4 with fail
  rw [show w3.alloc (.cells #[.int .i64 3, .slice y3 2 d3] 24) = W3 from hW3.symm]
  clear hW3 hM3
  go_wp2_with fail
  refine (CTU.out _ _ BR3.out).mono ?_
  rintro e w4 ⟨v4, rfl, hb4, k4⟩
  have BT4 := hid hb4
  have K34 := hid k4
  clear hb4 k4 CTU
  go_wp2_with fail
  refine (CRT.out _ _ BT4.out).mono ?_
  rintro e w5 ⟨kk5, _, n5, y5, d5, rfl, rfl, k5⟩
  obtain ⟨M5, hM5⟩ : ∃ N, w5.heap.size = N := ⟨_, rfl⟩
  obtain ⟨W5, hW5⟩ : ∃ W, W = w5.alloc (.cells (frL kk5 (.slice y5 n5 d5)).toArray 24) := ⟨_, rfl⟩
  have k5' : Kp Nb W3 W5 := by rw [hW5]; exact (K34.out.trans k5 (fun _ _ h => h)).alloc _
  have BM5 := hid (BM3.out.kept k5' (fun h => h))
  have BB5 := hid (BB3.out.kept k5' (fun _ h => h))
  have BR5 := hid (BR3.out.kept k5' (fun _ h => h))
  have BA5 := hid (BA3.out.kept k5' (fun _ h => h))
  have B15 := hid (B13.out.kept k5' (fun h => h))
  have K5 := hid (K3.out.trans k5' (fun _ _ h => h))
  clear k5 k5' K34 BT4 BM3 BB3 BR3 BA3 B13 K3 CRT
  go_upto_region 5 with fail
  rw [show w5.alloc (.cells #[.int .i64 kk5, .slice y5 n5 d5] 24) = W5 from hW5.symm]
  clear hW5 hM5
  obtain ⟨i0, z0, hi, hz0, hz1, hz2, hz3⟩ := byte_info3
  have LL : Hid (0 + F.length ≤ maxLen ∧ (0 + F.length) * 1 ≤ 140737488355328 ∧ F.length + F.length ≤ maxLen ∧ (F.length + F.length) * 1 ≤ 140737488355328) := hid (by rw [HLF.out]; unfold maxLen; omega)
  have FR : Hid (RowsSl bF 0 1 (W5.alloc (.cells #[] 5 (0, 0))) (.slice (some ⟨gb, 0, none⟩) 13 cb) F) := hid ((rows_by BR5.out).kept ((Kp.refl Nb W5).alloc _))
  have SZ : Hid (W5.heap.size ≤ (W5.alloc (.cells #[] 5 (0, 0))).heap.size) := hid ((Kp.refl Nb W5).alloc _).size
  go_wp2_with (at_builtin; refine wpList_append_rows (f := bF) (z := 0) (c := 1) rfl _ _ 22 rfl W5.heap.size 5 i0 z0 1 Try.underlying22 hi hz0 hz1 hz2 hz3 (by decide) _ 0 [] rfl (World.ownsRow_made W5 #[] 0 (Nat.le_refl _) (Nat.zero_le _) rfl) _ F rfl FR.out (fun q _ => rfl) (fun q _ u hu => by rw [List.mem_singleton.1 hu]; rfl) LL.out.1 LL.out.2.1 SZ.out ?_)
  intro v9 w9 hown hgrow
  have hk := ((Kp.refl Nb W5).alloc (.cells #[] 5)).grown hgrow (fun k hk h => by simp [Value.ownBlock] at hk; omega)
  have HO9 : Hid (w9.ownsRow W5.heap.size 5 1 v9 F.length (F.map (Value.int .u8))) := hid (by rw [flat_bytes] at hown; simpa only [Nat.zero_add, List.nil_append] using hown)
  have FR9 := hid ((rows_by BR5.out).kept hk)
  have K9 := hid hk
  clear hown hgrow hk FR
  obtain ⟨y9, c9, rfl⟩ := own_shape HO9.out
  go_wp2_with (at_builtin; refine wpList_append_rows (f := bF) (z := 0) (c := 1) rfl _ _ 22 rfl W5.heap.size 5 i0 z0 1 Try.underlying22 hi hz0 hz1 hz2 hz3 (by decide) _ _ _ rfl HO9.out _ F rfl FR9.out (fun q _ => rfl) (fun q _ u hu => by rw [List.mem_singleton.1 hu]; rfl) LL.out.2.2.1 LL.out.2.2.2 K9.out.size ?_)
  intro v10 w10 hown hgrow
  have hk := K9.out.grown hgrow (fun k hk h => by have := (row_cells HO9.out hk).1; omega)
  have BV : Hid (BySl Nb w10 v10 (F ++ F)) := hid (by
    rw [flat_bytes, ← List.map_append, ← List.length_append] at hown
    exact BySl.ofOwn hown (BF.out.append BF.out) (fun _ _ _ h => h))
  have K10 := hid hk
  clear hown hgrow hk HO9 FR9 K9 SZ LL
  go_wp2_with fail
  refine (CAL.out _ _ BV.out).mono ?_
  rintro e w11 ⟨v1, v2, xs, rfl, r1, r2, hsp, hl, k11⟩
  obtain ⟨g1, o1, c1, rfl, n1, -, q1⟩ := rows_pos r1 hl (by decide)
  obtain ⟨g2, o2, c2, rfl, n2, -, q2⟩ := rows_pos r2 hl (by decide)
  obtain ⟨⟨px, kx, yx, nx, dx⟩, hxe⟩ : ∃ x, xs[1]? = some x := ⟨_, List.getElem?_eq_getElem (by omega)⟩
  obtain ⟨x1, x2, x3, -⟩ := hsp.2 1 _ hxe
  rw [AT1.out.1] at x1
  rw [AT1.out.2] at x2 x3
  dsimp only at x1 x2 x3
  subst x1 x2
  obtain ⟨y', d', e'⟩ := x3.shp
  injection e' with e1 e2 e3
  subst e1 e2 e3
  have q1' := q1 1 (by decide)
  have q2' := q2 1 (by decide)
  rw [hxe] at q1' q2'
  have C13 : Hid (w11.cell? ⟨g1, o1 + 1, none⟩ = some (.int .i64 13)) := hid (q1' 0 _ rfl)
  have R13 : Hid (w11.rangeAt g2 (o2 + 2) (frL 3 (.slice yx 2 dx))) := hid q2'
  have BX := hid x3
  have kk := K10.out.trans k11 (fun _ _ h => h)
  have BM := hid (BM5.out.kept kk (fun h => h))
  have BB := hid (BB5.out.kept kk (fun _ h => h))
  have BR := hid (BR5.out.kept kk (fun _ h => h))
  have BA := hid (BA5.out.kept kk (fun _ h => h))
  have B1 := hid (B15.out.kept kk (fun h => h))
  have KK := hid (K5.out.trans kk (fun _ _ h => h))
  have C71 : Hid (w11.cell? ⟨gb, 0, none⟩ = some (.int .u8 71)) := hid (by have h := by_cell BR.out 0 (by rw [HLF.out]; decide); rw [Z0.out] at h; exact h)
  clear r1 r2 hsp hl k11 q1 q2 hxe x3 q1' q2' kk BM5 BB5 BR5 BA5 B15 K5 K10 CAL BV AT1
  go_upto_region 6 with fail
  refine region_vals2 [some 48, none, none, none, none, none, none, none, none, none, none, none, none, none, none, none, none, none, none, none, none, none, none, none, none, none, none, none, none, none, none, none, none, none, none, none, none, some 0, some 1, some 2, some 3, some 4, some 5, some 6, some 7, some 8, some 9, some 10, some 11, some 12, some 13, some 14, some 15, some 16, some 17, some 18, some 19, some 20, some 21, some 22, some 23, some 24, some 25, some 26, some 27, some 28, some 29, some 30, some 31, some 32, some 33, some 34, some 35, some 36, some 37, some 38, some 39, some 40, some 41, some 42, some 43, some 44, some 45, some 46, some 47] [[(2, none)], [(37, some 0)], [(38, some 1)], [(39, some 2)], [(2, none)], [(41, some 4)], [(42, some 5)], [(43, some 6)], [(40, some 3), (44, some 7)], [(45, some 8)], [(4, none)], [(47, some 10)], [(46, some 9), (48, some 11)], [(49, some 12)], [(3, none)], [(1, none)], [(51, some 14), (52, some 15)], [(50, some 13), (53, some 16)], [(54, some 17)], [(6, none)], [(56, some 19)], [(55, some 18), (57, some 20)], [(58, some 21)], [], [(60, some 23)], [(59, some 22), (61, some 24)], [(62, some 25)], [(7, none)], [(64, some 27)], [(65, some 28)], [(63, some 26), (66, some 29)], [(67, some 30)], [(7, none)], [(69, some 32)], [(70, some 33)], [(71, some 34)], [(68, some 31), (72, some 35)], [(73, some 36)], [(8, none)], [(75, some 38)], [(76, some 39)], [(1, none)], [(77, some 40), (78, some 41)], [(74, some 37), (79, some 42)], [(80, some 43)], [(1, none)], [(82, some 45)], [(81, some 44), (83, some 46)], [(84, some 47)]] [some 37, some 38, some 39, some 40, some 41, some 42, some 43, some 44, some 45, some 46, some 47, some 48, some 49, some 50, some 51, some 52, some 53, some 54, some 55, some 56, some 57, some 58, some 59, some 60, some 61, some 62, some 63, some 64, some 65, some 66, some 67, some 68, some 69, some 70, some 71, some 72, some 73, some 74, some 75, some 76, some 77, some 78, some 79, some 80, some 81, some 82, some 83, some 84, some 0] [.slice (some ⟨gb, 0, none⟩) 13 cb, .int .i64 13, .bool true, .bool true, .slice (some ⟨gb, 0, none⟩) 13 cb, .pointer (some ⟨gb, 0, none⟩), .int .u8 71, .bool true, .bool true, .bool true, .int .i64 0, .bool true, .bool true, .bool true, frV 3 (.slice y3 2 d3), frV 3 (.slice (some ⟨N, 0, none⟩) 2 2), .bool true, .bool true, .bool true, .int .i64 14, .bool true, .bool true, .bool true, .int .i64 13, .bool true, .bool true, .bool true, .slice (some ⟨g1, o1, none⟩) 2 c1, .int .i64 2, .bool true, .bool true, .bool true, .slice (some ⟨g1, o1, none⟩) 2 c1, .pointer (some ⟨g1, o1 + 1, none⟩), .int .i64 13, .bool true, .bool true, .bool true, .slice (some ⟨g2, o2, none⟩) 2 c2, .pointer (some ⟨g2, o2 + 2, none⟩), frV 3 (.slice yx 2 dx), frV 3 (.slice (some ⟨N, 0, none⟩) 2 2), .bool true, .bool true, .bool true, frV 3 (.slice (some ⟨N, 0, none⟩) 2 2), .bool true, .bool true, .bool true] (fun w' => Hid (Kp Nb w11 w')) (by kernel_rfl) (by kernel_rfl) (by kernel_rfl) ?hS (VFrom.all (n := 49) (by kernel_rfl) ?hstep) ?hend
  case hstep =>
    refine VFrom.cons (VStep.val _ rfl _ rfl (.slice (some ⟨gb, 0, none⟩) 13 cb) rfl trivial (fun ev wq hS he hr => ?_)) ?_
    · have r0 : ev (.tmp 2) = .slice (some ⟨gb, 0, none⟩) 13 cb := hr (2, none) (by simp); have hk := he.1; clear hr he
      go_simp
    refine VFrom.cons (VStep.val _ rfl _ rfl (.int .i64 13) rfl trivial (fun ev wq hS he hr => ?_)) ?_
    · have r0 : ev (.tmp 37) = .slice (some ⟨gb, 0, none⟩) 13 cb := hr (37, some 0) (by simp); have hk := he.1; clear hr he
      go_simp
    refine VFrom.cons (VStep.val _ rfl _ rfl (.bool true) rfl trivial (fun ev wq hS he hr => ?_)) ?_
    · have r0 : ev (.tmp 38) = .int .i64 13 := hr (38, some 1) (by simp); have hk := he.1; clear hr he
      go_simp
    refine VFrom.cons (VStep.val _ rfl _ rfl (.bool true) rfl trivial (fun ev wq hS he hr => ?_)) ?_
    · have r0 : ev (.tmp 39) = .bool true := hr (39, some 2) (by simp); have hk := he.1; clear hr he
      go_simp
    refine VFrom.cons (VStep.val _ rfl _ rfl (.slice (some ⟨gb, 0, none⟩) 13 cb) rfl rfl (fun ev wq hS he hr => ?_)) ?_
    · have r0 : ev (.tmp 2) = .slice (some ⟨gb, 0, none⟩) 13 cb := hr (2, none) (by simp); have hk := he.1; clear hr he
      go_simp
    refine VFrom.cons (VStep.val _ rfl _ rfl (.pointer (some ⟨gb, 0, none⟩)) rfl rfl (fun ev wq hS he hr => ?_)) ?_
    · have r0 : ev (.tmp 41) = .slice (some ⟨gb, 0, none⟩) 13 cb := hr (41, some 4) (by simp); have hk := he.1; clear hr he
      go_simp
    refine VFrom.cons (VStep.val _ rfl _ rfl (.int .u8 71) rfl rfl (fun ev wq hS he hr => ?_)) ?_
    · have r0 : ev (.tmp 42) = .pointer (some ⟨gb, 0, none⟩) := hr (42, some 5) (by simp); have hk := he.1; clear hr he
      have c0 := hS.out.cell C71.out (fun h => h)
      go_simp
    refine VFrom.cons (VStep.val _ rfl _ rfl (.bool true) rfl rfl (fun ev wq hS he hr => ?_)) ?_
    · have r0 : ev (.tmp 43) = .int .u8 71 := hr (43, some 6) (by simp); have hk := he.1; clear hr he
      go_simp
    refine VFrom.cons (VStep.val _ rfl _ rfl (.bool true) rfl trivial (fun ev wq hS he hr => ?_)) ?_
    · have r0 : ev (.tmp 40) = .bool true := hr (40, some 3) (by simp); have r1 : ev (.tmp 44) = .bool true := hr (44, some 7) (by simp); have hk := he.1; clear hr he
      go_simp
    refine VFrom.cons (VStep.val _ rfl _ rfl (.bool true) rfl trivial (fun ev wq hS he hr => ?_)) ?_
    · have r0 : ev (.tmp 45) = .bool true := hr (45, some 8) (by simp); have hk := he.1; clear hr he
      go_simp
    refine VFrom.cons (VStep.val _ rfl _ rfl (.int .i64 0) rfl rfl (fun ev wq hS he hr => ?_)) ?_
    · have r0 : ev (.tmp 4) = .int .i64 0 := hr (4, none) (by simp); have hk := he.1; clear hr he
      go_simp
    refine VFrom.cons (VStep.val _ rfl _ rfl (.bool true) rfl rfl (fun ev wq hS he hr => ?_)) ?_
    · have r0 : ev (.tmp 47) = .int .i64 0 := hr (47, some 10) (by simp); have hk := he.1; clear hr he
      go_simp
    refine VFrom.cons (VStep.val _ rfl _ rfl (.bool true) rfl trivial (fun ev wq hS he hr => ?_)) ?_
    · have r0 : ev (.tmp 46) = .bool true := hr (46, some 9) (by simp); have r1 : ev (.tmp 48) = .bool true := hr (48, some 11) (by simp); have hk := he.1; clear hr he
      go_simp
    refine VFrom.cons (VStep.val _ rfl _ rfl (.bool true) rfl trivial (fun ev wq hS he hr => ?_)) ?_
    · have r0 : ev (.tmp 49) = .bool true := hr (49, some 12) (by simp); have hk := he.1; clear hr he
      go_simp
    refine VFrom.cons (VStep.val _ rfl _ rfl (frV 3 (.slice y3 2 d3)) rfl rfl (fun ev wq hS he hr => ?_)) ?_
    · have r0 : ev (.tmp 3) = .pointer (some ⟨M3, 0, none⟩) := hr (3, none) (by simp); have hk := he.1; clear hr he
      exact exec_load rfl r0 (fr_load (BM.out.kept hS.out (fun h => h)))
    refine VFrom.cons (VStep.val _ rfl _ rfl (frV 3 (.slice (some ⟨N, 0, none⟩) 2 2)) rfl rfl (fun ev wq hS he hr => ?_)) ?_
    · have r0 : ev (.tmp 1) = .pointer (some ⟨(N + 1), 0, none⟩) := hr (1, none) (by simp); have hk := he.1; clear hr he
      exact exec_load rfl r0 (fr_load (B1.out.kept hS.out (fun h => h)))
    refine VFrom.cons (VStep.call _ rfl _ rfl (.bool true) rfl rfl 14 #[frV 3 (.slice y3 2 d3), frV 3 (.slice (some ⟨N, 0, none⟩) 2 2)] (fun ev wq hS he hr => ?_) (fun wq hS => ?_)) ?_
    · have r0 : ev (.tmp 51) = frV 3 (.slice y3 2 d3) := hr (51, some 14) (by simp); have r1 : ev (.tmp 52) = frV 3 (.slice (some ⟨N, 0, none⟩) 2 2) := hr (52, some 15) (by simp); have hk := he.1; have hf := he.2; clear hr he
      go_simp
    · exact (CS.out _ _ wq (BB.out.kept hS.out (fun _ h => h)) (BA.out.kept hS.out (fun _ h => h))).mono fun e w' ⟨h1, h2⟩ => ⟨h1, hid (hS.out.trans h2 (fun _ _ h => h))⟩
    refine VFrom.cons (VStep.val _ rfl _ rfl (.bool true) rfl trivial (fun ev wq hS he hr => ?_)) ?_
    · have r0 : ev (.tmp 50) = .bool true := hr (50, some 13) (by simp); have r1 : ev (.tmp 53) = .bool true := hr (53, some 16) (by simp); have hk := he.1; clear hr he
      go_simp
    refine VFrom.cons (VStep.val _ rfl _ rfl (.bool true) rfl trivial (fun ev wq hS he hr => ?_)) ?_
    · have r0 : ev (.tmp 54) = .bool true := hr (54, some 17) (by simp); have hk := he.1; clear hr he
      go_simp
    refine VFrom.cons (VStep.val _ rfl _ rfl (.int .i64 14) rfl rfl (fun ev wq hS he hr => ?_)) ?_
    · have r0 : ev (.tmp 6) = .int .i64 14 := hr (6, none) (by simp); have hk := he.1; clear hr he
      go_simp
    refine VFrom.cons (VStep.val _ rfl _ rfl (.bool true) rfl rfl (fun ev wq hS he hr => ?_)) ?_
    · have r0 : ev (.tmp 56) = .int .i64 14 := hr (56, some 19) (by simp); have hk := he.1; clear hr he
      go_simp
    refine VFrom.cons (VStep.val _ rfl _ rfl (.bool true) rfl trivial (fun ev wq hS he hr => ?_)) ?_
    · have r0 : ev (.tmp 55) = .bool true := hr (55, some 18) (by simp); have r1 : ev (.tmp 57) = .bool true := hr (57, some 20) (by simp); have hk := he.1; clear hr he
      go_simp
    refine VFrom.cons (VStep.val _ rfl _ rfl (.bool true) rfl trivial (fun ev wq hS he hr => ?_)) ?_
    · have r0 : ev (.tmp 58) = .bool true := hr (58, some 21) (by simp); have hk := he.1; clear hr he
      go_simp
    refine VFrom.cons (VStep.call _ rfl _ rfl (.int .i64 13) rfl rfl 15 #[.int .i64 2] (fun ev wq hS he hr => ?_) (fun wq hS => ?_)) ?_
    · have hk := he.1; have hf := he.2; clear hr he
      go_simp
    · exact (CC.out wq).mono fun e w' ⟨h1, h2⟩ => ⟨h1, by rw [← h2]; exact hS⟩
    refine VFrom.cons (VStep.val _ rfl _ rfl (.bool true) rfl rfl (fun ev wq hS he hr => ?_)) ?_
    · have r0 : ev (.tmp 60) = .int .i64 13 := hr (60, some 23) (by simp); have hk := he.1; clear hr he
      go_simp
    refine VFrom.cons (VStep.val _ rfl _ rfl (.bool true) rfl trivial (fun ev wq hS he hr => ?_)) ?_
    · have r0 : ev (.tmp 59) = .bool true := hr (59, some 22) (by simp); have r1 : ev (.tmp 61) = .bool true := hr (61, some 24) (by simp); have hk := he.1; clear hr he
      go_simp
    refine VFrom.cons (VStep.val _ rfl _ rfl (.bool true) rfl trivial (fun ev wq hS he hr => ?_)) ?_
    · have r0 : ev (.tmp 62) = .bool true := hr (62, some 25) (by simp); have hk := he.1; clear hr he
      go_simp
    refine VFrom.cons (VStep.val _ rfl _ rfl (.slice (some ⟨g1, o1, none⟩) 2 c1) rfl rfl (fun ev wq hS he hr => ?_)) ?_
    · have r0 : ev (.tmp 7) = .slice (some ⟨g1, o1, none⟩) 2 c1 := hr (7, none) (by simp); have hk := he.1; clear hr he
      go_simp
    refine VFrom.cons (VStep.val _ rfl _ rfl (.int .i64 2) rfl rfl (fun ev wq hS he hr => ?_)) ?_
    · have r0 : ev (.tmp 64) = .slice (some ⟨g1, o1, none⟩) 2 c1 := hr (64, some 27) (by simp); have hk := he.1; clear hr he
      go_simp
    refine VFrom.cons (VStep.val _ rfl _ rfl (.bool true) rfl rfl (fun ev wq hS he hr => ?_)) ?_
    · have r0 : ev (.tmp 65) = .int .i64 2 := hr (65, some 28) (by simp); have hk := he.1; clear hr he
      go_simp
    refine VFrom.cons (VStep.val _ rfl _ rfl (.bool true) rfl trivial (fun ev wq hS he hr => ?_)) ?_
    · have r0 : ev (.tmp 63) = .bool true := hr (63, some 26) (by simp); have r1 : ev (.tmp 66) = .bool true := hr (66, some 29) (by simp); have hk := he.1; clear hr he
      go_simp
    refine VFrom.cons (VStep.val _ rfl _ rfl (.bool true) rfl trivial (fun ev wq hS he hr => ?_)) ?_
    · have r0 : ev (.tmp 67) = .bool true := hr (67, some 30) (by simp); have hk := he.1; clear hr he
      go_simp
    refine VFrom.cons (VStep.val _ rfl _ rfl (.slice (some ⟨g1, o1, none⟩) 2 c1) rfl rfl (fun ev wq hS he hr => ?_)) ?_
    · have r0 : ev (.tmp 7) = .slice (some ⟨g1, o1, none⟩) 2 c1 := hr (7, none) (by simp); have hk := he.1; clear hr he
      go_simp
    refine VFrom.cons (VStep.val _ rfl _ rfl (.pointer (some ⟨g1, o1 + 1, none⟩)) rfl rfl (fun ev wq hS he hr => ?_)) ?_
    · have r0 : ev (.tmp 69) = .slice (some ⟨g1, o1, none⟩) 2 c1 := hr (69, some 32) (by simp); have hk := he.1; clear hr he
      go_simp
    refine VFrom.cons (VStep.val _ rfl _ rfl (.int .i64 13) rfl rfl (fun ev wq hS he hr => ?_)) ?_
    · have r0 : ev (.tmp 70) = .pointer (some ⟨g1, o1 + 1, none⟩) := hr (70, some 33) (by simp); have hk := he.1; clear hr he
      have c0 := hS.out.cell C13.out (fun h => h)
      go_simp
    refine VFrom.cons (VStep.val _ rfl _ rfl (.bool true) rfl rfl (fun ev wq hS he hr => ?_)) ?_
    · have r0 : ev (.tmp 71) = .int .i64 13 := hr (71, some 34) (by simp); have hk := he.1; clear hr he
      go_simp
    refine VFrom.cons (VStep.val _ rfl _ rfl (.bool true) rfl trivial (fun ev wq hS he hr => ?_)) ?_
    · have r0 : ev (.tmp 68) = .bool true := hr (68, some 31) (by simp); have r1 : ev (.tmp 72) = .bool true := hr (72, some 35) (by simp); have hk := he.1; clear hr he
      go_simp
    refine VFrom.cons (VStep.val _ rfl _ rfl (.bool true) rfl trivial (fun ev wq hS he hr => ?_)) ?_
    · have r0 : ev (.tmp 73) = .bool true := hr (73, some 36) (by simp); have hk := he.1; clear hr he
      go_simp
    refine VFrom.cons (VStep.val _ rfl _ rfl (.slice (some ⟨g2, o2, none⟩) 2 c2) rfl rfl (fun ev wq hS he hr => ?_)) ?_
    · have r0 : ev (.tmp 8) = .slice (some ⟨g2, o2, none⟩) 2 c2 := hr (8, none) (by simp); have hk := he.1; clear hr he
      go_simp
    refine VFrom.cons (VStep.val _ rfl _ rfl (.pointer (some ⟨g2, o2 + 2, none⟩)) rfl rfl (fun ev wq hS he hr => ?_)) ?_
    · have r0 : ev (.tmp 75) = .slice (some ⟨g2, o2, none⟩) 2 c2 := hr (75, some 38) (by simp); have hk := he.1; clear hr he
      go_simp
    refine VFrom.cons (VStep.val _ rfl _ rfl (frV 3 (.slice yx 2 dx)) rfl rfl (fun ev wq hS he hr => ?_)) ?_
    · have r0 : ev (.tmp 76) = .pointer (some ⟨g2, o2 + 2, none⟩) := hr (76, some 39) (by simp); have hk := he.1; clear hr he
      exact exec_load rfl r0 (frr_load (rngf_kept R13.out hS.out))
    refine VFrom.cons (VStep.val _ rfl _ rfl (frV 3 (.slice (some ⟨N, 0, none⟩) 2 2)) rfl rfl (fun ev wq hS he hr => ?_)) ?_
    · have r0 : ev (.tmp 1) = .pointer (some ⟨(N + 1), 0, none⟩) := hr (1, none) (by simp); have hk := he.1; clear hr he
      exact exec_load rfl r0 (fr_load (B1.out.kept hS.out (fun h => h)))
    refine VFrom.cons (VStep.call _ rfl _ rfl (.bool true) rfl rfl 14 #[frV 3 (.slice yx 2 dx), frV 3 (.slice (some ⟨N, 0, none⟩) 2 2)] (fun ev wq hS he hr => ?_) (fun wq hS => ?_)) ?_
    · have r0 : ev (.tmp 77) = frV 3 (.slice yx 2 dx) := hr (77, some 40) (by simp); have r1 : ev (.tmp 78) = frV 3 (.slice (some ⟨N, 0, none⟩) 2 2) := hr (78, some 41) (by simp); have hk := he.1; have hf := he.2; clear hr he
      go_simp
    · exact (CS.out _ _ wq (BX.out.kept hS.out (fun _ h => h)) (BA.out.kept hS.out (fun _ h => h))).mono fun e w' ⟨h1, h2⟩ => ⟨h1, hid (hS.out.trans h2 (fun _ _ h => h))⟩
    refine VFrom.cons (VStep.val _ rfl _ rfl (.bool true) rfl trivial (fun ev wq hS he hr => ?_)) ?_
    · have r0 : ev (.tmp 74) = .bool true := hr (74, some 37) (by simp); have r1 : ev (.tmp 79) = .bool true := hr (79, some 42) (by simp); have hk := he.1; clear hr he
      go_simp
    refine VFrom.cons (VStep.val _ rfl _ rfl (.bool true) rfl trivial (fun ev wq hS he hr => ?_)) ?_
    · have r0 : ev (.tmp 80) = .bool true := hr (80, some 43) (by simp); have hk := he.1; clear hr he
      go_simp
    refine VFrom.cons (VStep.val _ rfl _ rfl (frV 3 (.slice (some ⟨N, 0, none⟩) 2 2)) rfl rfl (fun ev wq hS he hr => ?_)) ?_
    · have r0 : ev (.tmp 1) = .pointer (some ⟨(N + 1), 0, none⟩) := hr (1, none) (by simp); have hk := he.1; clear hr he
      exact exec_load rfl r0 (fr_load (B1.out.kept hS.out (fun h => h)))
    refine VFrom.cons (VStep.call _ rfl _ rfl (.bool true) rfl rfl 12 #[frV 3 (.slice (some ⟨N, 0, none⟩) 2 2)] (fun ev wq hS he hr => ?_) (fun wq hS => ?_)) ?_
    · have r0 : ev (.tmp 82) = frV 3 (.slice (some ⟨N, 0, none⟩) 2 2) := hr (82, some 45) (by simp); have hk := he.1; have hf := he.2; clear hr he
      go_simp
    · exact (CR.out _ _ wq).mono fun e w' ⟨h1, h2⟩ => ⟨h1, hid (hS.out.trans h2 (fun _ _ h => h))⟩
    refine VFrom.cons (VStep.val _ rfl _ rfl (.bool true) rfl trivial (fun ev wq hS he hr => ?_)) ?_
    · have r0 : ev (.tmp 81) = .bool true := hr (81, some 44) (by simp); have r1 : ev (.tmp 83) = .bool true := hr (83, some 46) (by simp); have hk := he.1; clear hr he
      go_simp
    refine VFrom.cons (VStep.val _ rfl _ rfl (.bool true) rfl trivial (fun ev wq hS he hr => ?_)) ?_
    · have r0 : ev (.tmp 84) = .bool true := hr (84, some 47) (by simp); have hk := he.1; clear hr he
      go_simp
    exact VFrom.nil
  case hS => exact hid (Kp.refl Nb w11).drew
  case hend =>
    intro wy hy
    have K9 := hid (KK.out.trans hy.out (fun _ _ h => h))
    clear hy
    simp only [putAll, List.zip_cons_cons, List.zip_nil_right, List.foldl_cons, List.foldl_nil, Act.put, List.setIfInBounds_toArray, List.set_cons_zero, List.set_cons_succ]
    go_wp2
    go_ret
    exact ⟨rfl, K9.out⟩

end Go.Proofs.Ytmgmghlflldepaa
