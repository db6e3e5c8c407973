/-
  The statement of layer 1 on parts: in whichever parts bytes come, the sum and the mark are the same. The walk, for bytes that are not none.
-/
import Derived.Test.YtfbpaakgifnmaaaPartsKit
namespace Go.Proofs.Ytfbpaakgifnmaaa
open Go.RowKit

set_option maxRecDepth 100000 in
set_option maxHeartbeats 3000000 in
theorem parts_some (a b c0 c1 : Int) (blk off cap : Nat) (zs : List Int) (w : World) (hc : zs.length ≤ cap) (hm : cap ≤ maxLen) (h0 : 0 < zs.length) (hz : IsBytes zs) (hb : ByAt w blk off zs) (r0 : 0 ≤ c0 ∧ c0 < 65536) (r1 : 0 ≤ c1 ∧ c1 < 65536) :
    Calls Try.prog 5 #[.agg #[.int .u64 a, .int .u64 b], .slice (some ⟨blk, off, none⟩) zs.length cap, .agg #[.int .u16 c0, .int .u16 c1]] w fun e w' => e = .returned (.bool true) ∧ Kp Nb w w' := by
  unfold maxLen at hm
  have HZ := hid hz
  have HB := hid hb
  clear hb hz
  go_enter Try.func5, Try.ntmps5
  go_wp2_with fail
  refine (first_any _).mono ?_
  rintro e w1 ⟨rfl, k1⟩
  have K1 := hid ((((Kp.refl Nb w).alloc (.cells #[.int .u64 a, .int .u64 b] 24)).alloc (.cells #[.int .u16 c0, .int .u16 c1] 52)).trans k1 (fun _ _ h => h))
  have HA := hid (((Blk.new w 24 [.int .u64 a, .int .u64 b]).alloc (.cells #[.int .u16 c0, .int .u16 c1] 52)).kept k1 (fun h => h))
  have HC := hid ((Blk.new (w.alloc (.cells #[.int .u64 a, .int .u64 b] 24)) 52 [.int .u16 c0, .int .u16 c1]).kept k1 (fun h => h))
  have HS := hid k1.size
  clear k1
  by_cases hg : 3000 < zs.length
  · go_wp2
    go_ret
    exact ⟨rfl, K1.out⟩
  · have hne : ((zs.length : Int) + 1 == 0) = false := by simp; omega
    have hn : ¬ ((zs.length : Int) + 1 = 0) := by omega
    have q0 : w1.cell? ⟨w.heap.size + 1, 0, none⟩ = some (.int .u16 c0) := by have := HC.out.cell 0; rw [World.size_alloc] at this; exact this
    have q1 : w1.cell? ⟨w.heap.size + 1, 1, none⟩ = some (.int .u16 c1) := by have := HC.out.cell 1; rw [World.size_alloc] at this; exact this
    go_wp2
    go_quiet (fail)
    have e0 := Int.emod_nonneg c0 hn
    have e1 := Int.emod_lt_of_pos c0 (show (0 : Int) < (zs.length : Int) + 1 by omega)
    have e2 := Int.emod_nonneg c1 hn
    have e3 := Int.emod_lt_of_pos c1 (show (0 : Int) < (zs.length : Int) + 1 by omega)
    obtain ⟨X, hX, eX⟩ : ∃ X : Nat, X ≤ zs.length ∧ c0 % ((zs.length : Int) + 1) = X := ⟨(c0 % ((zs.length : Int) + 1)).toNat, by omega, by omega⟩
    obtain ⟨Y, hY, eY⟩ : ∃ Y : Nat, Y ≤ zs.length ∧ c1 % ((zs.length : Int) + 1) = Y := ⟨(c1 % ((zs.length : Int) + 1)).toNat, by omega, by omega⟩
    clear e0 e1 e2 e3
    rw [eX, eY]
    clear eX eY hne hn q0 q1
    have HM : Hid (Kp Nb w (w1.drewN nq)) := by unfold Hid; exact K1.out.drewN nq
    have HA2 : Hid (Blk (w1.drewN nq) w.heap.size 24 [.int .u64 a, .int .u64 b]) := HA.out.drewN nq
    generalize w1.drewN nq = w2 at HM HA2 ⊢
    clear K1 HA HC HS
    have q0 : w2.cell? ⟨w.heap.size, 0, none⟩ = some (.int .u64 a) := HA2.out.cell 0
    have q1 : w2.cell? ⟨w.heap.size, 1, none⟩ = some (.int .u64 b) := HA2.out.cell 1
    obtain ⟨lo, hi, hlh, hhi, hcase⟩ : ∃ lo hi : Nat, lo ≤ hi ∧ hi ≤ zs.length ∧ ((lo = X ∧ hi = Y ∧ X < Y) ∨ (lo = X ∧ hi = Y ∧ X = Y) ∨ (lo = Y ∧ hi = X ∧ Y < X)) := by
      rcases Nat.lt_trichotomy X Y with h | h | h
      · exact ⟨X, Y, by omega, by omega, .inl ⟨rfl, rfl, h⟩⟩
      · exact ⟨X, Y, by omega, by omega, .inr (.inl ⟨rfl, rfl, h⟩)⟩
      · exact ⟨Y, X, by omega, by omega, .inr (.inr ⟨rfl, rfl, h⟩)⟩
    clear hX hY
    rcases hcase with ⟨rfl, rfl, hxy⟩ | ⟨rfl, rfl, hxy⟩ | ⟨rfl, rfl, hxy⟩
    · go_wp2_with fail
      refine (new_any _ _ _).mono ?_
      rintro e w3 ⟨B, hB, rfl, h3, k3⟩
      have HB3 := hid hB
      have HS3 := hid h3
      have HM3 := hid (HM.out.trans k3 (fun _ _ h => h))
      have HA3 := hid (HA2.out.kept k3 (fun h => h))
      have HQ := hid HA2.out.lt
      clear h3 k3 hB q0 q1 HM HA2
      go_wp2
      go_loopw [41] (PartR w B a b zs) (fun i _ => zs.length - (intOf i).toNat)
      case atStart => exact ⟨0, Nat.zero_le _, rfl, HS3.out, HM3.out, HA3.out⟩
      case round =>
        obtain ⟨k, hk, rfl, hst, hkp, hbk⟩ := hrel
        by_cases hlt : k < zs.length
        · have HBY := hid (show BySl (Jb B) wr (.slice (some ⟨blk, off + k, none⟩) 1 (cap - k)) [zs[k]?.getD 0] from by_single hc hm HZ.out HB.out k hlt hkp.out (by have := HB3.out; have := HQ.out; omega))
          go_wp2_with fail
          refine (write_any B _ _ [zs[k]?.getD 0] _ hst.out (Sp.write_ok _ _ (Sp.init_ok a b)) (by rw [Sp.write_n]; show 0 + _ + 1 < _; simp; omega) HBY.out).mono ?_
          rintro e w4 ⟨rfl, h4, k4⟩
          have HR := hid (show PartR w B a b zs (.int .i64 ((k : Int) + 1)) w4 from ⟨k + 1, by omega, by go_num, by unfold Hid; rw [take_snoc zs k hlt, Sp.write_append]; exact h4, hkp.out.trans k4 (fun i hi h => by unfold Jb at h; have := HB3.out; have := HQ.out; omega), hbk.out.kept k4 (by unfold Jb; have := HB3.out; have := HQ.out; omega)⟩)
          clear h4 k4
          go_wp2
          go_roundw
          case rel => exact HR.out
          case measure => simp [intOf]; omega
        · obtain rfl : k = zs.length := by omega
          rw [List.take_length] at hst
          have q0 : wr.cell? ⟨w.heap.size, 0, none⟩ = some (.int .u64 a) := hbk.out.cell 0
          have q1 : wr.cell? ⟨w.heap.size, 1, none⟩ = some (.int .u64 b) := hbk.out.cell 1
          go_wp2_with fail
          have HP1 := hid (PsSl.one (show BySl Nb wr (.slice (some ⟨blk, off, none⟩) zs.length cap) zs from ⟨HZ.out, .inr ⟨blk, off, cap, rfl, hc, hm, fun i hi => hkp.out.cell (HB.out i hi) (fun h => h), fun _ h => h⟩⟩) 42)
          refine (hash_any _ _ _ _ _ HP1.out (by simp; omega)).mono ?_
          rintro e w4 ⟨rfl, k4⟩
          rw [List.flatten_singleton]
          have HK4 := hid ((hkp.out.alloc (.cells #[.slice (some ⟨blk, off, none⟩) zs.length cap] 42)).trans k4 (fun _ _ h => h))
          have HB4 := hid ((hbk.out.alloc (.cells #[.slice (some ⟨blk, off, none⟩) zs.length cap] 42)).kept k4 (fun h => h))
          have HS4 := hid (hst.out.kept ((Kp.refl Nb wr).alloc (.cells #[.slice (some ⟨blk, off, none⟩) zs.length cap] 42) |>.trans k4 (fun _ _ h => h)) (fun h => h))
          clear k4 q0 q1 hkp hbk hst
          have q0 : w4.cell? ⟨w.heap.size, 0, none⟩ = some (.int .u64 a) := HB4.out.cell 0
          have q1 : w4.cell? ⟨w.heap.size, 1, none⟩ = some (.int .u64 b) := HB4.out.cell 1
          go_wp2_with fail
          have HK0 := hid (Kp.refl Nb w4)
          have HB5 : Hid (ByAt w4 blk off zs) := hid (fun i hi => HK4.out.cell (HB.out i hi) (fun h => h))
          have H5 : Hid (BySl Nb w4 (.slice (some ⟨blk, off, none⟩) zs.length cap) zs) := hid ⟨HZ.out, .inr ⟨blk, off, cap, rfl, hc, hm, HB5.out, fun _ h => h⟩⟩
          have H1 : Hid (BySl Nb w4 (.slice (some ⟨blk, off, none⟩) lo cap) (zs.take lo)) := hid (by have := by_cut hc hm HZ.out HB5.out 0 lo (by omega); simpa using this)
          have H4 : Hid (BySl Nb w4 (.slice (some ⟨blk, off, none⟩) hi cap) (zs.take hi)) := hid (by have := by_cut hc hm HZ.out HB5.out 0 hi (by omega); simpa using this)
          have hn3 : Hid (zs.length ≤ 3000) := hid (by omega)
          have hfl3 : Hid ([zs.take lo, (zs.drop lo).take (hi - lo), zs.drop hi].flatten = zs) := hid (by
            have e1 : zs.drop hi = (zs.drop lo).drop (hi - lo) := by rw [List.drop_drop]; congr 1; omega
            simp only [List.flatten_cons, List.flatten_nil, List.append_nil]
            rw [e1, List.take_append_drop, List.take_append_drop])
          have hfl2 : Hid ([zs.take hi, zs.drop hi].flatten = zs) := hid (by simp)
          have hfl1 : Hid ([zs].flatten = zs) := hid (by simp)
          by_cases hcap : hi = cap
          · subst hcap
            have z0 : (0 : Int) ≤ (lo : Int) := by omega
            have z1 : (lo : Int) ≤ (hi : Int) := by omega
            have z4 : (0 : Int) ≤ (hi : Int) := by omega
            have z3 : (lo : Int) ≤ (hi : Int) := by omega
            have z7 : ¬ (hi - lo = 0) := by omega
            have z9 : ¬ (hi = lo) := by omega
            have z12 : lo < hi := by omega
            have z14 : ¬ (hi ≤ lo) := by omega
            have z5 : (hi : Int) ≤ (zs.length : Int) := by omega
            have z6 : (zs.length : Int) ≤ (hi : Int) := by omega
            have z15 : ¬ (hi = 0) := by omega
            have z16 : 0 < hi := by omega
            have H2 : Hid (BySl Nb w4 (.slice (some ⟨blk, off + lo, none⟩) (hi - lo) (hi - lo)) ((zs.drop lo).take (hi - lo))) := hid (by_cut hc hm HZ.out HB5.out lo (hi - lo) (by omega))
            have H3 : Hid (∀ (x : Option Addr) (c : Nat), BySl Nb w4 (.slice x 0 c) (zs.drop hi)) := hid (fun x c => by rw [List.drop_eq_nil_of_le (show zs.length ≤ hi from by omega)]; exact ⟨fun i => by simp, .inl ⟨⟨_, _, rfl⟩, rfl⟩⟩)
            obtain ⟨hh, ehh⟩ : ∃ hh, hash a b zs = hh := ⟨_, rfl⟩
            obtain ⟨m0, em0⟩ : ∃ m : Int, byteOf (markA zs) 0 = m := ⟨_, rfl⟩
            obtain ⟨m1, em1⟩ : ∃ m : Int, byteOf (markA zs) 1 = m := ⟨_, rfl⟩
            obtain ⟨m2, em2⟩ : ∃ m : Int, byteOf (markA zs) 2 = m := ⟨_, rfl⟩
            obtain ⟨m3, em3⟩ : ∃ m : Int, byteOf (markA zs) 3 = m := ⟨_, rfl⟩
            obtain ⟨m4, em4⟩ : ∃ m : Int, byteOf (markA zs) 4 = m := ⟨_, rfl⟩
            obtain ⟨m5, em5⟩ : ∃ m : Int, byteOf (markA zs) 5 = m := ⟨_, rfl⟩
            obtain ⟨m6, em6⟩ : ∃ m : Int, byteOf (markA zs) 6 = m := ⟨_, rfl⟩
            obtain ⟨m7, em7⟩ : ∃ m : Int, byteOf (markA zs) 7 = m := ⟨_, rfl⟩
            obtain ⟨m8, em8⟩ : ∃ m : Int, byteOf (markB zs) 0 = m := ⟨_, rfl⟩
            obtain ⟨m9, em9⟩ : ∃ m : Int, byteOf (markB zs) 1 = m := ⟨_, rfl⟩
            obtain ⟨m10, em10⟩ : ∃ m : Int, byteOf (markB zs) 2 = m := ⟨_, rfl⟩
            obtain ⟨m11, em11⟩ : ∃ m : Int, byteOf (markB zs) 3 = m := ⟨_, rfl⟩
            obtain ⟨m12, em12⟩ : ∃ m : Int, byteOf (markB zs) 4 = m := ⟨_, rfl⟩
            obtain ⟨m13, em13⟩ : ∃ m : Int, byteOf (markB zs) 5 = m := ⟨_, rfl⟩
            obtain ⟨m14, em14⟩ : ∃ m : Int, byteOf (markB zs) 6 = m := ⟨_, rfl⟩
            obtain ⟨m15, em15⟩ : ∃ m : Int, byteOf (markB zs) 7 = m := ⟨_, rfl⟩
            obtain ⟨sp, esp⟩ : ∃ sp : Sp, (Sp.init a b).write zs = sp := ⟨_, rfl⟩
            have hme : ∀ w, Sem.run Try.prog (Op.equalIn 10000 32 (.agg #[.int .u8 m0, .int .u8 m1, .int .u8 m2, .int .u8 m3, .int .u8 m4, .int .u8 m5, .int .u8 m6, .int .u8 m7, .int .u8 m8, .int .u8 m9, .int .u8 m10, .int .u8 m11, .int .u8 m12, .int .u8 m13, .int .u8 m14, .int .u8 m15]) (.agg #[.int .u8 m0, .int .u8 m1, .int .u8 m2, .int .u8 m3, .int .u8 m4, .int .u8 m5, .int .u8 m6, .int .u8 m7, .int .u8 m8, .int .u8 m9, .int .u8 m10, .int .u8 m11, .int .u8 m12, .int .u8 m13, .int .u8 m14, .int .u8 m15])) w = .ok true w := fun w => by rw [← em0, ← em1, ← em2, ← em3, ← em4, ← em5, ← em6, ← em7, ← em8, ← em9, ← em10, ← em11, ← em12, ← em13, ← em14, ← em15]; exact mark_same zs w
            have CH : Hid (∀ (v : Value) (ps : List (List Int)) (wx : World), PsSl wx v ps → Hid (ps.flatten = zs) → Calls Try.prog 15 #[.agg #[.int .u64 a, .int .u64 b], v] wx fun e w' => e = .returned (.int .u64 hh) ∧ Kp Nb wx w') := hid (fun v ps wx hp hf => by rw [← ehh]; exact hash_zs a b hp hf.out hn3.out)
            have CS : Hid (∀ wx : World, SipAt wx B sp → Calls Try.prog 24 #[.pointer (some ⟨B, 0, none⟩)] wx fun e w' => e = .returned (.int .u64 hh) ∧ Kp Nb wx w') := hid (fun wx hs => by rw [← ehh]; exact sum_zs a b (by rw [esp]; exact hs) hn3.out)
            have CM : Hid (∀ (v : Value) (wx : World), (∃ ps, PsSl wx v ps ∧ Hid (ps.flatten = zs)) → Calls Try.prog 17 #[v] wx fun e w' => e = .returned (.agg #[.int .u8 m0, .int .u8 m1, .int .u8 m2, .int .u8 m3, .int .u8 m4, .int .u8 m5, .int .u8 m6, .int .u8 m7, .int .u8 m8, .int .u8 m9, .int .u8 m10, .int .u8 m11, .int .u8 m12, .int .u8 m13, .int .u8 m14, .int .u8 m15]) ∧ Kp Nb wx w') := hid (fun v wx ⟨ps, hp, hf⟩ => by rw [← em0, ← em1, ← em2, ← em3, ← em4, ← em5, ← em6, ← em7, ← em8, ← em9, ← em10, ← em11, ← em12, ← em13, ← em14, ← em15]; exact mark_zs hp hf.out hn3.out)
            rw [esp] at HS4
            rw [ehh]
            clear ehh esp em0 em1 em2 em3 em4 em5 em6 em7 em8 em9 em10 em11 em12 em13 em14 em15
            go_region_held3 (fun w' => Hid (Kp Nb w4 w') ∧ w'.cell? ⟨w.heap.size, 0, none⟩ = some (.int .u64 a) ∧ w'.cell? ⟨w.heap.size, 1, none⟩ = some (.int .u64 b))
              (first | exact part_held HB4.out (HK0.out.drew) | exact part_held HB4.out (Kp.alloc (Hid.out (by assumption)) _) | exact part_held HB4.out (Kp.drew (Kp.alloc HK0.out _)) | exact part_held HB4.out kh.out | exact part_held HB4.out (Kp.alloc kh.out _) | exact part_held HB4.out (Kp.alloc (Kp.alloc kh.out _) _))
              (first
                | (go_at_call 15; refine (CH.out _ _ _ (PsSl.kept (PsSl.three HK0.out H1.out H2.out (H3.out _ _) 42) (Kp.drew (Kp.refl _ _))) hfl3).mono ?_; rintro e wy ⟨rfl, kk'⟩; have kk := hid kk'; have kh := hid (Kp.trans (Kp.drew (Kp.alloc HK0.out _)) kk' (fun _ _ h => h)); clear kk')
                | (go_at_call 24; refine (CS.out _ (SipAt.kept HS4.out kh.out (fun h => h))).mono ?_; rintro e wy ⟨rfl, kk'⟩; have kk := hid kk'; have kh := hid (Kp.trans kh.out kk' (fun _ _ h => h)); clear kk')
                | (go_at_call 17
                   refine (CM.out _ _ (by first
                     | with_reducible exact ⟨_, PsSl.two kh.out H4.out (H3.out _ _) 42, hfl2⟩
                     | with_reducible exact ⟨_, PsSl.kept (PsSl.two kh.out H4.out (H3.out _ _) 42) (Kp.alloc (Kp.refl _ _) _), hfl2⟩
                     | with_reducible exact ⟨_, PsSl.two_up kh.out H4.out (H3.out _ _) 42 _, hfl2⟩
                     | with_reducible exact ⟨_, PsSl.kept (PsSl.one_up kh0.out H5.out 42 _) kk.out, hfl1⟩
                     | with_reducible exact ⟨_, PsSl.kept (PsSl.kept (PsSl.one' kh0.out H5.out 42) (Kp.alloc (Kp.refl _ _) _)) kk.out, hfl1⟩
                     | with_reducible exact ⟨_, PsSl.one' kh.out H5.out 42, hfl1⟩)).mono ?_
                   have kh0 := kh
                   rintro e wy ⟨rfl, kk'⟩
                   have kk := hid kk'
                   have kh := hid (Kp.trans (S := Nb) (by first | with_reducible exact kh0.out | with_reducible exact Kp.alloc kh0.out _ | with_reducible exact Kp.alloc (Kp.alloc kh0.out _) _) kk' (fun _ _ h => h))
                   clear kk'))
            all_goals (try go_wp2; go_ret; exact ⟨rfl, HK4.out.trans kh.out (fun _ _ h => h)⟩)
          · have z0 : (0 : Int) ≤ (lo : Int) := by omega
            have z1 : (lo : Int) ≤ (hi : Int) := by omega
            have z4 : (0 : Int) ≤ (hi : Int) := by omega
            have z2 : (hi : Int) ≤ (cap : Int) := by omega
            have z8 : ¬ (cap - hi = 0) := by omega
            have z10 : ¬ (cap = hi) := by omega
            have z11 : hi < cap := by omega
            have z13 : ¬ (cap ≤ hi) := by omega
            have z3 : (lo : Int) ≤ (cap : Int) := by omega
            have z7 : ¬ (cap - lo = 0) := by omega
            have z9 : ¬ (cap = lo) := by omega
            have z12 : lo < cap := by omega
            have z14 : ¬ (cap ≤ lo) := by omega
            have z5 : (hi : Int) ≤ (zs.length : Int) := by omega
            have z6 : (zs.length : Int) ≤ (cap : Int) := by omega
            have z15 : ¬ (cap = 0) := by omega
            have z16 : 0 < cap := by omega
            have H2 : Hid (BySl Nb w4 (.slice (some ⟨blk, off + lo, none⟩) (hi - lo) (cap - lo)) ((zs.drop lo).take (hi - lo))) := hid (by_cut hc hm HZ.out HB5.out lo (hi - lo) (by omega))
            have H3 : Hid (BySl Nb w4 (.slice (some ⟨blk, off + hi, none⟩) (zs.length - hi) (cap - hi)) (zs.drop hi)) := hid (by have := by_cut hc hm HZ.out HB5.out hi (zs.length - hi) (by omega); rwa [List.take_of_length_le (by simp)] at this)
            obtain ⟨hh, ehh⟩ : ∃ hh, hash a b zs = hh := ⟨_, rfl⟩
            obtain ⟨m0, em0⟩ : ∃ m : Int, byteOf (markA zs) 0 = m := ⟨_, rfl⟩
            obtain ⟨m1, em1⟩ : ∃ m : Int, byteOf (markA zs) 1 = m := ⟨_, rfl⟩
            obtain ⟨m2, em2⟩ : ∃ m : Int, byteOf (markA zs) 2 = m := ⟨_, rfl⟩
            obtain ⟨m3, em3⟩ : ∃ m : Int, byteOf (markA zs) 3 = m := ⟨_, rfl⟩
            obtain ⟨m4, em4⟩ : ∃ m : Int, byteOf (markA zs) 4 = m := ⟨_, rfl⟩
            obtain ⟨m5, em5⟩ : ∃ m : Int, byteOf (markA zs) 5 = m := ⟨_, rfl⟩
            obtain ⟨m6, em6⟩ : ∃ m : Int, byteOf (markA zs) 6 = m := ⟨_, rfl⟩
            obtain ⟨m7, em7⟩ : ∃ m : Int, byteOf (markA zs) 7 = m := ⟨_, rfl⟩
            obtain ⟨m8, em8⟩ : ∃ m : Int, byteOf (markB zs) 0 = m := ⟨_, rfl⟩
            obtain ⟨m9, em9⟩ : ∃ m : Int, byteOf (markB zs) 1 = m := ⟨_, rfl⟩
            obtain ⟨m10, em10⟩ : ∃ m : Int, byteOf (markB zs) 2 = m := ⟨_, rfl⟩
            obtain ⟨m11, em11⟩ : ∃ m : Int, byteOf (markB zs) 3 = m := ⟨_, rfl⟩
            obtain ⟨m12, em12⟩ : ∃ m : Int, byteOf (markB zs) 4 = m := ⟨_, rfl⟩
            obtain ⟨m13, em13⟩ : ∃ m : Int, byteOf (markB zs) 5 = m := ⟨_, rfl⟩
            obtain ⟨m14, em14⟩ : ∃ m : Int, byteOf (markB zs) 6 = m := ⟨_, rfl⟩
            obtain ⟨m15, em15⟩ : ∃ m : Int, byteOf (markB zs) 7 = m := ⟨_, rfl⟩
            obtain ⟨sp, esp⟩ : ∃ sp : Sp, (Sp.init a b).write zs = sp := ⟨_, rfl⟩
            have hme : ∀ w, Sem.run Try.prog (Op.equalIn 10000 32 (.agg #[.int .u8 m0, .int .u8 m1, .int .u8 m2, .int .u8 m3, .int .u8 m4, .int .u8 m5, .int .u8 m6, .int .u8 m7, .int .u8 m8, .int .u8 m9, .int .u8 m10, .int .u8 m11, .int .u8 m12, .int .u8 m13, .int .u8 m14, .int .u8 m15]) (.agg #[.int .u8 m0, .int .u8 m1, .int .u8 m2, .int .u8 m3, .int .u8 m4, .int .u8 m5, .int .u8 m6, .int .u8 m7, .int .u8 m8, .int .u8 m9, .int .u8 m10, .int .u8 m11, .int .u8 m12, .int .u8 m13, .int .u8 m14, .int .u8 m15])) w = .ok true w := fun w => by rw [← em0, ← em1, ← em2, ← em3, ← em4, ← em5, ← em6, ← em7, ← em8, ← em9, ← em10, ← em11, ← em12, ← em13, ← em14, ← em15]; exact mark_same zs w
            have CH : Hid (∀ (v : Value) (ps : List (List Int)) (wx : World), PsSl wx v ps → Hid (ps.flatten = zs) → Calls Try.prog 15 #[.agg #[.int .u64 a, .int .u64 b], v] wx fun e w' => e = .returned (.int .u64 hh) ∧ Kp Nb wx w') := hid (fun v ps wx hp hf => by rw [← ehh]; exact hash_zs a b hp hf.out hn3.out)
            have CS : Hid (∀ wx : World, SipAt wx B sp → Calls Try.prog 24 #[.pointer (some ⟨B, 0, none⟩)] wx fun e w' => e = .returned (.int .u64 hh) ∧ Kp Nb wx w') := hid (fun wx hs => by rw [← ehh]; exact sum_zs a b (by rw [esp]; exact hs) hn3.out)
            have CM : Hid (∀ (v : Value) (wx : World), (∃ ps, PsSl wx v ps ∧ Hid (ps.flatten = zs)) → Calls Try.prog 17 #[v] wx fun e w' => e = .returned (.agg #[.int .u8 m0, .int .u8 m1, .int .u8 m2, .int .u8 m3, .int .u8 m4, .int .u8 m5, .int .u8 m6, .int .u8 m7, .int .u8 m8, .int .u8 m9, .int .u8 m10, .int .u8 m11, .int .u8 m12, .int .u8 m13, .int .u8 m14, .int .u8 m15]) ∧ Kp Nb wx w') := hid (fun v wx ⟨ps, hp, hf⟩ => by rw [← em0, ← em1, ← em2, ← em3, ← em4, ← em5, ← em6, ← em7, ← em8, ← em9, ← em10, ← em11, ← em12, ← em13, ← em14, ← em15]; exact mark_zs hp hf.out hn3.out)
            rw [esp] at HS4
            rw [ehh]
            clear ehh esp em0 em1 em2 em3 em4 em5 em6 em7 em8 em9 em10 em11 em12 em13 em14 em15
            go_region_held3 (fun w' => Hid (Kp Nb w4 w') ∧ w'.cell? ⟨w.heap.size, 0, none⟩ = some (.int .u64 a) ∧ w'.cell? ⟨w.heap.size, 1, none⟩ = some (.int .u64 b))
              (first | exact part_held HB4.out (HK0.out.drew) | exact part_held HB4.out (Kp.alloc (Hid.out (by assumption)) _) | exact part_held HB4.out (Kp.drew (Kp.alloc HK0.out _)) | exact part_held HB4.out kh.out | exact part_held HB4.out (Kp.alloc kh.out _) | exact part_held HB4.out (Kp.alloc (Kp.alloc kh.out _) _))
              (first
                | (go_at_call 15; refine (CH.out _ _ _ (PsSl.kept (PsSl.three HK0.out H1.out H2.out H3.out 42) (Kp.drew (Kp.refl _ _))) hfl3).mono ?_; rintro e wy ⟨rfl, kk'⟩; have kk := hid kk'; have kh := hid (Kp.trans (Kp.drew (Kp.alloc HK0.out _)) kk' (fun _ _ h => h)); clear kk')
                | (go_at_call 24; refine (CS.out _ (SipAt.kept HS4.out kh.out (fun h => h))).mono ?_; rintro e wy ⟨rfl, kk'⟩; have kk := hid kk'; have kh := hid (Kp.trans kh.out kk' (fun _ _ h => h)); clear kk')
                | (go_at_call 17
                   refine (CM.out _ _ (by first
                     | with_reducible exact ⟨_, PsSl.two kh.out H4.out H3.out 42, hfl2⟩
                     | with_reducible exact ⟨_, PsSl.kept (PsSl.two kh.out H4.out H3.out 42) (Kp.alloc (Kp.refl _ _) _), hfl2⟩
                     | with_reducible exact ⟨_, PsSl.two_up kh.out H4.out H3.out 42 _, hfl2⟩
                     | with_reducible exact ⟨_, PsSl.kept (PsSl.one_up kh0.out H5.out 42 _) kk.out, hfl1⟩
                     | with_reducible exact ⟨_, PsSl.kept (PsSl.kept (PsSl.one' kh0.out H5.out 42) (Kp.alloc (Kp.refl _ _) _)) kk.out, hfl1⟩
                     | with_reducible exact ⟨_, PsSl.one' kh.out H5.out 42, hfl1⟩)).mono ?_
                   have kh0 := kh
                   rintro e wy ⟨rfl, kk'⟩
                   have kk := hid kk'
                   have kh := hid (Kp.trans (S := Nb) (by first | with_reducible exact kh0.out | with_reducible exact Kp.alloc kh0.out _ | with_reducible exact Kp.alloc (Kp.alloc kh0.out _) _) kk' (fun _ _ h => h))
                   clear kk'))
            all_goals (try go_wp2; go_ret; exact ⟨rfl, HK4.out.trans kh.out (fun _ _ h => h)⟩)
    · subst hxy
      go_wp2_with fail
      refine (new_any _ _ _).mono ?_
      rintro e w3 ⟨B, hB, rfl, h3, k3⟩
      have HB3 := hid hB
      have HS3 := hid h3
      have HM3 := hid (HM.out.trans k3 (fun _ _ h => h))
      have HA3 := hid (HA2.out.kept k3 (fun h => h))
      have HQ := hid HA2.out.lt
      clear h3 k3 hB q0 q1 HM HA2
      go_wp2
      go_loopw [41] (PartR w B a b zs) (fun i _ => zs.length - (intOf i).toNat)
      case atStart => exact ⟨0, Nat.zero_le _, rfl, HS3.out, HM3.out, HA3.out⟩
      case round =>
        obtain ⟨k, hk, rfl, hst, hkp, hbk⟩ := hrel
        by_cases hlt : k < zs.length
        · have HBY := hid (show BySl (Jb B) wr (.slice (some ⟨blk, off + k, none⟩) 1 (cap - k)) [zs[k]?.getD 0] from by_single hc hm HZ.out HB.out k hlt hkp.out (by have := HB3.out; have := HQ.out; omega))
          go_wp2_with fail
          refine (write_any B _ _ [zs[k]?.getD 0] _ hst.out (Sp.write_ok _ _ (Sp.init_ok a b)) (by rw [Sp.write_n]; show 0 + _ + 1 < _; simp; omega) HBY.out).mono ?_
          rintro e w4 ⟨rfl, h4, k4⟩
          have HR := hid (show PartR w B a b zs (.int .i64 ((k : Int) + 1)) w4 from ⟨k + 1, by omega, by go_num, by unfold Hid; rw [take_snoc zs k hlt, Sp.write_append]; exact h4, hkp.out.trans k4 (fun i lo h => by unfold Jb at h; have := HB3.out; have := HQ.out; omega), hbk.out.kept k4 (by unfold Jb; have := HB3.out; have := HQ.out; omega)⟩)
          clear h4 k4
          go_wp2
          go_roundw
          case rel => exact HR.out
          case measure => simp [intOf]; omega
        · obtain rfl : k = zs.length := by omega
          rw [List.take_length] at hst
          have q0 : wr.cell? ⟨w.heap.size, 0, none⟩ = some (.int .u64 a) := hbk.out.cell 0
          have q1 : wr.cell? ⟨w.heap.size, 1, none⟩ = some (.int .u64 b) := hbk.out.cell 1
          go_wp2_with fail
          have HP1 := hid (PsSl.one (show BySl Nb wr (.slice (some ⟨blk, off, none⟩) zs.length cap) zs from ⟨HZ.out, .inr ⟨blk, off, cap, rfl, hc, hm, fun i lo => hkp.out.cell (HB.out i lo) (fun h => h), fun _ h => h⟩⟩) 42)
          refine (hash_any _ _ _ _ _ HP1.out (by simp; omega)).mono ?_
          rintro e w4 ⟨rfl, k4⟩
          rw [List.flatten_singleton]
          have HK4 := hid ((hkp.out.alloc (.cells #[.slice (some ⟨blk, off, none⟩) zs.length cap] 42)).trans k4 (fun _ _ h => h))
          have HB4 := hid ((hbk.out.alloc (.cells #[.slice (some ⟨blk, off, none⟩) zs.length cap] 42)).kept k4 (fun h => h))
          have HS4 := hid (hst.out.kept ((Kp.refl Nb wr).alloc (.cells #[.slice (some ⟨blk, off, none⟩) zs.length cap] 42) |>.trans k4 (fun _ _ h => h)) (fun h => h))
          clear k4 q0 q1 hkp hbk hst
          have q0 : w4.cell? ⟨w.heap.size, 0, none⟩ = some (.int .u64 a) := HB4.out.cell 0
          have q1 : w4.cell? ⟨w.heap.size, 1, none⟩ = some (.int .u64 b) := HB4.out.cell 1
          go_wp2_with fail
          have HK0 := hid (Kp.refl Nb w4)
          have HB5 : Hid (ByAt w4 blk off zs) := hid (fun i lo => HK4.out.cell (HB.out i lo) (fun h => h))
          have H5 : Hid (BySl Nb w4 (.slice (some ⟨blk, off, none⟩) zs.length cap) zs) := hid ⟨HZ.out, .inr ⟨blk, off, cap, rfl, hc, hm, HB5.out, fun _ h => h⟩⟩
          have H1 : Hid (BySl Nb w4 (.slice (some ⟨blk, off, none⟩) lo cap) (zs.take lo)) := hid (by have := by_cut hc hm HZ.out HB5.out 0 lo (by omega); simpa using this)
          have H4 : Hid (BySl Nb w4 (.slice (some ⟨blk, off, none⟩) lo cap) (zs.take lo)) := hid (by have := by_cut hc hm HZ.out HB5.out 0 lo (by omega); simpa using this)
          have hn3 : Hid (zs.length ≤ 3000) := hid (by omega)
          have hfl3 : Hid ([zs.take lo, (zs.drop lo).take (lo - lo), zs.drop lo].flatten = zs) := hid (by
            simp)
          have hfl2 : Hid ([zs.take lo, zs.drop lo].flatten = zs) := hid (by simp)
          have hfl1 : Hid ([zs].flatten = zs) := hid (by simp)
          by_cases hcap : lo = cap
          · subst hcap
            have z0 : (0 : Int) ≤ (lo : Int) := by omega
            have z5 : (lo : Int) ≤ (zs.length : Int) := by omega
            have z6 : (zs.length : Int) ≤ (lo : Int) := by omega
            have z15 : ¬ (lo = 0) := by omega
            have z16 : 0 < lo := by omega
            have H2 : Hid (∀ (x : Option Addr) (c : Nat), BySl Nb w4 (.slice x 0 c) ((zs.drop lo).take (lo - lo))) := hid (fun x c => ⟨fun i => by simp, .inl ⟨⟨_, _, rfl⟩, by simp⟩⟩)
            have H3 : Hid (∀ (x : Option Addr) (c : Nat), BySl Nb w4 (.slice x 0 c) (zs.drop lo)) := hid (fun x c => by rw [List.drop_eq_nil_of_le (show zs.length ≤ lo from by omega)]; exact ⟨fun i => by simp, .inl ⟨⟨_, _, rfl⟩, rfl⟩⟩)
            obtain ⟨hh, ehh⟩ : ∃ hh, hash a b zs = hh := ⟨_, rfl⟩
            obtain ⟨m0, em0⟩ : ∃ m : Int, byteOf (markA zs) 0 = m := ⟨_, rfl⟩
            obtain ⟨m1, em1⟩ : ∃ m : Int, byteOf (markA zs) 1 = m := ⟨_, rfl⟩
            obtain ⟨m2, em2⟩ : ∃ m : Int, byteOf (markA zs) 2 = m := ⟨_, rfl⟩
            obtain ⟨m3, em3⟩ : ∃ m : Int, byteOf (markA zs) 3 = m := ⟨_, rfl⟩
            obtain ⟨m4, em4⟩ : ∃ m : Int, byteOf (markA zs) 4 = m := ⟨_, rfl⟩
            obtain ⟨m5, em5⟩ : ∃ m : Int, byteOf (markA zs) 5 = m := ⟨_, rfl⟩
            obtain ⟨m6, em6⟩ : ∃ m : Int, byteOf (markA zs) 6 = m := ⟨_, rfl⟩
            obtain ⟨m7, em7⟩ : ∃ m : Int, byteOf (markA zs) 7 = m := ⟨_, rfl⟩
            obtain ⟨m8, em8⟩ : ∃ m : Int, byteOf (markB zs) 0 = m := ⟨_, rfl⟩
            obtain ⟨m9, em9⟩ : ∃ m : Int, byteOf (markB zs) 1 = m := ⟨_, rfl⟩
            obtain ⟨m10, em10⟩ : ∃ m : Int, byteOf (markB zs) 2 = m := ⟨_, rfl⟩
            obtain ⟨m11, em11⟩ : ∃ m : Int, byteOf (markB zs) 3 = m := ⟨_, rfl⟩
            obtain ⟨m12, em12⟩ : ∃ m : Int, byteOf (markB zs) 4 = m := ⟨_, rfl⟩
            obtain ⟨m13, em13⟩ : ∃ m : Int, byteOf (markB zs) 5 = m := ⟨_, rfl⟩
            obtain ⟨m14, em14⟩ : ∃ m : Int, byteOf (markB zs) 6 = m := ⟨_, rfl⟩
            obtain ⟨m15, em15⟩ : ∃ m : Int, byteOf (markB zs) 7 = m := ⟨_, rfl⟩
            obtain ⟨sp, esp⟩ : ∃ sp : Sp, (Sp.init a b).write zs = sp := ⟨_, rfl⟩
            have hme : ∀ w, Sem.run Try.prog (Op.equalIn 10000 32 (.agg #[.int .u8 m0, .int .u8 m1, .int .u8 m2, .int .u8 m3, .int .u8 m4, .int .u8 m5, .int .u8 m6, .int .u8 m7, .int .u8 m8, .int .u8 m9, .int .u8 m10, .int .u8 m11, .int .u8 m12, .int .u8 m13, .int .u8 m14, .int .u8 m15]) (.agg #[.int .u8 m0, .int .u8 m1, .int .u8 m2, .int .u8 m3, .int .u8 m4, .int .u8 m5, .int .u8 m6, .int .u8 m7, .int .u8 m8, .int .u8 m9, .int .u8 m10, .int .u8 m11, .int .u8 m12, .int .u8 m13, .int .u8 m14, .int .u8 m15])) w = .ok true w := fun w => by rw [← em0, ← em1, ← em2, ← em3, ← em4, ← em5, ← em6, ← em7, ← em8, ← em9, ← em10, ← em11, ← em12, ← em13, ← em14, ← em15]; exact mark_same zs w
            have CH : Hid (∀ (v : Value) (ps : List (List Int)) (wx : World), PsSl wx v ps → Hid (ps.flatten = zs) → Calls Try.prog 15 #[.agg #[.int .u64 a, .int .u64 b], v] wx fun e w' => e = .returned (.int .u64 hh) ∧ Kp Nb wx w') := hid (fun v ps wx hp hf => by rw [← ehh]; exact hash_zs a b hp hf.out hn3.out)
            have CS : Hid (∀ wx : World, SipAt wx B sp → Calls Try.prog 24 #[.pointer (some ⟨B, 0, none⟩)] wx fun e w' => e = .returned (.int .u64 hh) ∧ Kp Nb wx w') := hid (fun wx hs => by rw [← ehh]; exact sum_zs a b (by rw [esp]; exact hs) hn3.out)
            have CM : Hid (∀ (v : Value) (wx : World), (∃ ps, PsSl wx v ps ∧ Hid (ps.flatten = zs)) → Calls Try.prog 17 #[v] wx fun e w' => e = .returned (.agg #[.int .u8 m0, .int .u8 m1, .int .u8 m2, .int .u8 m3, .int .u8 m4, .int .u8 m5, .int .u8 m6, .int .u8 m7, .int .u8 m8, .int .u8 m9, .int .u8 m10, .int .u8 m11, .int .u8 m12, .int .u8 m13, .int .u8 m14, .int .u8 m15]) ∧ Kp Nb wx w') := hid (fun v wx ⟨ps, hp, hf⟩ => by rw [← em0, ← em1, ← em2, ← em3, ← em4, ← em5, ← em6, ← em7, ← em8, ← em9, ← em10, ← em11, ← em12, ← em13, ← em14, ← em15]; exact mark_zs hp hf.out hn3.out)
            rw [esp] at HS4
            rw [ehh]
            clear ehh esp em0 em1 em2 em3 em4 em5 em6 em7 em8 em9 em10 em11 em12 em13 em14 em15
            go_region_held3 (fun w' => Hid (Kp Nb w4 w') ∧ w'.cell? ⟨w.heap.size, 0, none⟩ = some (.int .u64 a) ∧ w'.cell? ⟨w.heap.size, 1, none⟩ = some (.int .u64 b))
              (first | exact part_held HB4.out (HK0.out.drew) | exact part_held HB4.out (Kp.alloc (Hid.out (by assumption)) _) | exact part_held HB4.out (Kp.drew (Kp.alloc HK0.out _)) | exact part_held HB4.out kh.out | exact part_held HB4.out (Kp.alloc kh.out _) | exact part_held HB4.out (Kp.alloc (Kp.alloc kh.out _) _))
              (first
                | (go_at_call 15; refine (CH.out _ _ _ (PsSl.kept (PsSl.three HK0.out H1.out (H2.out _ _) (H3.out _ _) 42) (Kp.drew (Kp.refl _ _))) hfl3).mono ?_; rintro e wy ⟨rfl, kk'⟩; have kk := hid kk'; have kh := hid (Kp.trans (Kp.drew (Kp.alloc HK0.out _)) kk' (fun _ _ h => h)); clear kk')
                | (go_at_call 24; refine (CS.out _ (SipAt.kept HS4.out kh.out (fun h => h))).mono ?_; rintro e wy ⟨rfl, kk'⟩; have kk := hid kk'; have kh := hid (Kp.trans kh.out kk' (fun _ _ h => h)); clear kk')
                | (go_at_call 17
                   refine (CM.out _ _ (by first
                     | with_reducible exact ⟨_, PsSl.two kh.out H4.out (H3.out _ _) 42, hfl2⟩
                     | with_reducible exact ⟨_, PsSl.kept (PsSl.two kh.out H4.out (H3.out _ _) 42) (Kp.alloc (Kp.refl _ _) _), hfl2⟩
                     | with_reducible exact ⟨_, PsSl.two_up kh.out H4.out (H3.out _ _) 42 _, hfl2⟩
                     | with_reducible exact ⟨_, PsSl.kept (PsSl.one_up kh0.out H5.out 42 _) kk.out, hfl1⟩
                     | with_reducible exact ⟨_, PsSl.kept (PsSl.kept (PsSl.one' kh0.out H5.out 42) (Kp.alloc (Kp.refl _ _) _)) kk.out, hfl1⟩
                     | with_reducible exact ⟨_, PsSl.one' kh.out H5.out 42, hfl1⟩)).mono ?_
                   have kh0 := kh
                   rintro e wy ⟨rfl, kk'⟩
                   have kk := hid kk'
                   have kh := hid (Kp.trans (S := Nb) (by first | with_reducible exact kh0.out | with_reducible exact Kp.alloc kh0.out _ | with_reducible exact Kp.alloc (Kp.alloc kh0.out _) _) kk' (fun _ _ h => h))
                   clear kk'))
            all_goals (try go_wp2; go_ret; exact ⟨rfl, HK4.out.trans kh.out (fun _ _ h => h)⟩)
          · have z0 : (0 : Int) ≤ (lo : Int) := by omega
            have z2 : (lo : Int) ≤ (cap : Int) := by omega
            have z8 : ¬ (cap - lo = 0) := by omega
            have z10 : ¬ (cap = lo) := by omega
            have z11 : lo < cap := by omega
            have z13 : ¬ (cap ≤ lo) := by omega
            have z5 : (lo : Int) ≤ (zs.length : Int) := by omega
            have z6 : (zs.length : Int) ≤ (cap : Int) := by omega
            have z15 : ¬ (cap = 0) := by omega
            have z16 : 0 < cap := by omega
            have H2 : Hid (∀ (x : Option Addr) (c : Nat), BySl Nb w4 (.slice x 0 c) ((zs.drop lo).take (lo - lo))) := hid (fun x c => ⟨fun i => by simp, .inl ⟨⟨_, _, rfl⟩, by simp⟩⟩)
            have H3 : Hid (BySl Nb w4 (.slice (some ⟨blk, off + lo, none⟩) (zs.length - lo) (cap - lo)) (zs.drop lo)) := hid (by have := by_cut hc hm HZ.out HB5.out lo (zs.length - lo) (by omega); rwa [List.take_of_length_le (by simp)] at this)
            obtain ⟨hh, ehh⟩ : ∃ hh, hash a b zs = hh := ⟨_, rfl⟩
            obtain ⟨m0, em0⟩ : ∃ m : Int, byteOf (markA zs) 0 = m := ⟨_, rfl⟩
            obtain ⟨m1, em1⟩ : ∃ m : Int, byteOf (markA zs) 1 = m := ⟨_, rfl⟩
            obtain ⟨m2, em2⟩ : ∃ m : Int, byteOf (markA zs) 2 = m := ⟨_, rfl⟩
            obtain ⟨m3, em3⟩ : ∃ m : Int, byteOf (markA zs) 3 = m := ⟨_, rfl⟩
            obtain ⟨m4, em4⟩ : ∃ m : Int, byteOf (markA zs) 4 = m := ⟨_, rfl⟩
            obtain ⟨m5, em5⟩ : ∃ m : Int, byteOf (markA zs) 5 = m := ⟨_, rfl⟩
            obtain ⟨m6, em6⟩ : ∃ m : Int, byteOf (markA zs) 6 = m := ⟨_, rfl⟩
            obtain ⟨m7, em7⟩ : ∃ m : Int, byteOf (markA zs) 7 = m := ⟨_, rfl⟩
            obtain ⟨m8, em8⟩ : ∃ m : Int, byteOf (markB zs) 0 = m := ⟨_, rfl⟩
            obtain ⟨m9, em9⟩ : ∃ m : Int, byteOf (markB zs) 1 = m := ⟨_, rfl⟩
            obtain ⟨m10, em10⟩ : ∃ m : Int, byteOf (markB zs) 2 = m := ⟨_, rfl⟩
            obtain ⟨m11, em11⟩ : ∃ m : Int, byteOf (markB zs) 3 = m := ⟨_, rfl⟩
            obtain ⟨m12, em12⟩ : ∃ m : Int, byteOf (markB zs) 4 = m := ⟨_, rfl⟩
            obtain ⟨m13, em13⟩ : ∃ m : Int, byteOf (markB zs) 5 = m := ⟨_, rfl⟩
            obtain ⟨m14, em14⟩ : ∃ m : Int, byteOf (markB zs) 6 = m := ⟨_, rfl⟩
            obtain ⟨m15, em15⟩ : ∃ m : Int, byteOf (markB zs) 7 = m := ⟨_, rfl⟩
            obtain ⟨sp, esp⟩ : ∃ sp : Sp, (Sp.init a b).write zs = sp := ⟨_, rfl⟩
            have hme : ∀ w, Sem.run Try.prog (Op.equalIn 10000 32 (.agg #[.int .u8 m0, .int .u8 m1, .int .u8 m2, .int .u8 m3, .int .u8 m4, .int .u8 m5, .int .u8 m6, .int .u8 m7, .int .u8 m8, .int .u8 m9, .int .u8 m10, .int .u8 m11, .int .u8 m12, .int .u8 m13, .int .u8 m14, .int .u8 m15]) (.agg #[.int .u8 m0, .int .u8 m1, .int .u8 m2, .int .u8 m3, .int .u8 m4, .int .u8 m5, .int .u8 m6, .int .u8 m7, .int .u8 m8, .int .u8 m9, .int .u8 m10, .int .u8 m11, .int .u8 m12, .int .u8 m13, .int .u8 m14, .int .u8 m15])) w = .ok true w := fun w => by rw [← em0, ← em1, ← em2, ← em3, ← em4, ← em5, ← em6, ← em7, ← em8, ← em9, ← em10, ← em11, ← em12, ← em13, ← em14, ← em15]; exact mark_same zs w
            have CH : Hid (∀ (v : Value) (ps : List (List Int)) (wx : World), PsSl wx v ps → Hid (ps.flatten = zs) → Calls Try.prog 15 #[.agg #[.int .u64 a, .int .u64 b], v] wx fun e w' => e = .returned (.int .u64 hh) ∧ Kp Nb wx w') := hid (fun v ps wx hp hf => by rw [← ehh]; exact hash_zs a b hp hf.out hn3.out)
            have CS : Hid (∀ wx : World, SipAt wx B sp → Calls Try.prog 24 #[.pointer (some ⟨B, 0, none⟩)] wx fun e w' => e = .returned (.int .u64 hh) ∧ Kp Nb wx w') := hid (fun wx hs => by rw [← ehh]; exact sum_zs a b (by rw [esp]; exact hs) hn3.out)
            have CM : Hid (∀ (v : Value) (wx : World), (∃ ps, PsSl wx v ps ∧ Hid (ps.flatten = zs)) → Calls Try.prog 17 #[v] wx fun e w' => e = .returned (.agg #[.int .u8 m0, .int .u8 m1, .int .u8 m2, .int .u8 m3, .int .u8 m4, .int .u8 m5, .int .u8 m6, .int .u8 m7, .int .u8 m8, .int .u8 m9, .int .u8 m10, .int .u8 m11, .int .u8 m12, .int .u8 m13, .int .u8 m14, .int .u8 m15]) ∧ Kp Nb wx w') := hid (fun v wx ⟨ps, hp, hf⟩ => by rw [← em0, ← em1, ← em2, ← em3, ← em4, ← em5, ← em6, ← em7, ← em8, ← em9, ← em10, ← em11, ← em12, ← em13, ← em14, ← em15]; exact mark_zs hp hf.out hn3.out)
            rw [esp] at HS4
            rw [ehh]
            clear ehh esp em0 em1 em2 em3 em4 em5 em6 em7 em8 em9 em10 em11 em12 em13 em14 em15
            go_region_held3 (fun w' => Hid (Kp Nb w4 w') ∧ w'.cell? ⟨w.heap.size, 0, none⟩ = some (.int .u64 a) ∧ w'.cell? ⟨w.heap.size, 1, none⟩ = some (.int .u64 b))
              (first | exact part_held HB4.out (HK0.out.drew) | exact part_held HB4.out (Kp.alloc (Hid.out (by assumption)) _) | exact part_held HB4.out (Kp.drew (Kp.alloc HK0.out _)) | exact part_held HB4.out kh.out | exact part_held HB4.out (Kp.alloc kh.out _) | exact part_held HB4.out (Kp.alloc (Kp.alloc kh.out _) _))
              (first
                | (go_at_call 15; refine (CH.out _ _ _ (PsSl.kept (PsSl.three HK0.out H1.out (H2.out _ _) H3.out 42) (Kp.drew (Kp.refl _ _))) hfl3).mono ?_; rintro e wy ⟨rfl, kk'⟩; have kk := hid kk'; have kh := hid (Kp.trans (Kp.drew (Kp.alloc HK0.out _)) kk' (fun _ _ h => h)); clear kk')
                | (go_at_call 24; refine (CS.out _ (SipAt.kept HS4.out kh.out (fun h => h))).mono ?_; rintro e wy ⟨rfl, kk'⟩; have kk := hid kk'; have kh := hid (Kp.trans kh.out kk' (fun _ _ h => h)); clear kk')
                | (go_at_call 17
                   refine (CM.out _ _ (by first
                     | with_reducible exact ⟨_, PsSl.two kh.out H4.out H3.out 42, hfl2⟩
                     | with_reducible exact ⟨_, PsSl.kept (PsSl.two kh.out H4.out H3.out 42) (Kp.alloc (Kp.refl _ _) _), hfl2⟩
                     | with_reducible exact ⟨_, PsSl.two_up kh.out H4.out H3.out 42 _, hfl2⟩
                     | with_reducible exact ⟨_, PsSl.kept (PsSl.one_up kh0.out H5.out 42 _) kk.out, hfl1⟩
                     | with_reducible exact ⟨_, PsSl.kept (PsSl.kept (PsSl.one' kh0.out H5.out 42) (Kp.alloc (Kp.refl _ _) _)) kk.out, hfl1⟩
                     | with_reducible exact ⟨_, PsSl.one' kh.out H5.out 42, hfl1⟩)).mono ?_
                   have kh0 := kh
                   rintro e wy ⟨rfl, kk'⟩
                   have kk := hid kk'
                   have kh := hid (Kp.trans (S := Nb) (by first | with_reducible exact kh0.out | with_reducible exact Kp.alloc kh0.out _ | with_reducible exact Kp.alloc (Kp.alloc kh0.out _) _) kk' (fun _ _ h => h))
                   clear kk'))
            all_goals (try go_wp2; go_ret; exact ⟨rfl, HK4.out.trans kh.out (fun _ _ h => h)⟩)
    · go_wp2_with fail
      refine (new_any _ _ _).mono ?_
      rintro e w3 ⟨B, hB, rfl, h3, k3⟩
      have HB3 := hid hB
      have HS3 := hid h3
      have HM3 := hid (HM.out.trans k3 (fun _ _ h => h))
      have HA3 := hid (HA2.out.kept k3 (fun h => h))
      have HQ := hid HA2.out.lt
      clear h3 k3 hB q0 q1 HM HA2
      go_wp2
      go_loopw [41] (PartR w B a b zs) (fun i _ => zs.length - (intOf i).toNat)
      case atStart => exact ⟨0, Nat.zero_le _, rfl, HS3.out, HM3.out, HA3.out⟩
      case round =>
        obtain ⟨k, hk, rfl, hst, hkp, hbk⟩ := hrel
        by_cases hlt : k < zs.length
        · have HBY := hid (show BySl (Jb B) wr (.slice (some ⟨blk, off + k, none⟩) 1 (cap - k)) [zs[k]?.getD 0] from by_single hc hm HZ.out HB.out k hlt hkp.out (by have := HB3.out; have := HQ.out; omega))
          go_wp2_with fail
          refine (write_any B _ _ [zs[k]?.getD 0] _ hst.out (Sp.write_ok _ _ (Sp.init_ok a b)) (by rw [Sp.write_n]; show 0 + _ + 1 < _; simp; omega) HBY.out).mono ?_
          rintro e w4 ⟨rfl, h4, k4⟩
          have HR := hid (show PartR w B a b zs (.int .i64 ((k : Int) + 1)) w4 from ⟨k + 1, by omega, by go_num, by unfold Hid; rw [take_snoc zs k hlt, Sp.write_append]; exact h4, hkp.out.trans k4 (fun i hi h => by unfold Jb at h; have := HB3.out; have := HQ.out; omega), hbk.out.kept k4 (by unfold Jb; have := HB3.out; have := HQ.out; omega)⟩)
          clear h4 k4
          go_wp2
          go_roundw
          case rel => exact HR.out
          case measure => simp [intOf]; omega
        · obtain rfl : k = zs.length := by omega
          rw [List.take_length] at hst
          have q0 : wr.cell? ⟨w.heap.size, 0, none⟩ = some (.int .u64 a) := hbk.out.cell 0
          have q1 : wr.cell? ⟨w.heap.size, 1, none⟩ = some (.int .u64 b) := hbk.out.cell 1
          go_wp2_with fail
          have HP1 := hid (PsSl.one (show BySl Nb wr (.slice (some ⟨blk, off, none⟩) zs.length cap) zs from ⟨HZ.out, .inr ⟨blk, off, cap, rfl, hc, hm, fun i hi => hkp.out.cell (HB.out i hi) (fun h => h), fun _ h => h⟩⟩) 42)
          refine (hash_any _ _ _ _ _ HP1.out (by simp; omega)).mono ?_
          rintro e w4 ⟨rfl, k4⟩
          rw [List.flatten_singleton]
          have HK4 := hid ((hkp.out.alloc (.cells #[.slice (some ⟨blk, off, none⟩) zs.length cap] 42)).trans k4 (fun _ _ h => h))
          have HB4 := hid ((hbk.out.alloc (.cells #[.slice (some ⟨blk, off, none⟩) zs.length cap] 42)).kept k4 (fun h => h))
          have HS4 := hid (hst.out.kept ((Kp.refl Nb wr).alloc (.cells #[.slice (some ⟨blk, off, none⟩) zs.length cap] 42) |>.trans k4 (fun _ _ h => h)) (fun h => h))
          clear k4 q0 q1 hkp hbk hst
          have q0 : w4.cell? ⟨w.heap.size, 0, none⟩ = some (.int .u64 a) := HB4.out.cell 0
          have q1 : w4.cell? ⟨w.heap.size, 1, none⟩ = some (.int .u64 b) := HB4.out.cell 1
          go_wp2_with fail
          have HK0 := hid (Kp.refl Nb w4)
          have HB5 : Hid (ByAt w4 blk off zs) := hid (fun i hi => HK4.out.cell (HB.out i hi) (fun h => h))
          have H5 : Hid (BySl Nb w4 (.slice (some ⟨blk, off, none⟩) zs.length cap) zs) := hid ⟨HZ.out, .inr ⟨blk, off, cap, rfl, hc, hm, HB5.out, fun _ h => h⟩⟩
          have H1 : Hid (BySl Nb w4 (.slice (some ⟨blk, off, none⟩) lo cap) (zs.take lo)) := hid (by have := by_cut hc hm HZ.out HB5.out 0 lo (by omega); simpa using this)
          have H4 : Hid (BySl Nb w4 (.slice (some ⟨blk, off, none⟩) hi cap) (zs.take hi)) := hid (by have := by_cut hc hm HZ.out HB5.out 0 hi (by omega); simpa using this)
          have hn3 : Hid (zs.length ≤ 3000) := hid (by omega)
          have hfl3 : Hid ([zs.take lo, (zs.drop lo).take (hi - lo), zs.drop hi].flatten = zs) := hid (by
            have e1 : zs.drop hi = (zs.drop lo).drop (hi - lo) := by rw [List.drop_drop]; congr 1; omega
            simp only [List.flatten_cons, List.flatten_nil, List.append_nil]
            rw [e1, List.take_append_drop, List.take_append_drop])
          have hfl2 : Hid ([zs.take hi, zs.drop hi].flatten = zs) := hid (by simp)
          have hfl1 : Hid ([zs].flatten = zs) := hid (by simp)
          by_cases hcap : hi = cap
          · subst hcap
            have z0 : (0 : Int) ≤ (lo : Int) := by omega
            have z1 : (lo : Int) ≤ (hi : Int) := by omega
            have z4 : (0 : Int) ≤ (hi : Int) := by omega
            have z3 : (lo : Int) ≤ (hi : Int) := by omega
            have z7 : ¬ (hi - lo = 0) := by omega
            have z9 : ¬ (hi = lo) := by omega
            have z12 : lo < hi := by omega
            have z14 : ¬ (hi ≤ lo) := by omega
            have z5 : (hi : Int) ≤ (zs.length : Int) := by omega
            have z6 : (zs.length : Int) ≤ (hi : Int) := by omega
            have z15 : ¬ (hi = 0) := by omega
            have z16 : 0 < hi := by omega
            have H2 : Hid (BySl Nb w4 (.slice (some ⟨blk, off + lo, none⟩) (hi - lo) (hi - lo)) ((zs.drop lo).take (hi - lo))) := hid (by_cut hc hm HZ.out HB5.out lo (hi - lo) (by omega))
            have H3 : Hid (∀ (x : Option Addr) (c : Nat), BySl Nb w4 (.slice x 0 c) (zs.drop hi)) := hid (fun x c => by rw [List.drop_eq_nil_of_le (show zs.length ≤ hi from by omega)]; exact ⟨fun i => by simp, .inl ⟨⟨_, _, rfl⟩, rfl⟩⟩)
            obtain ⟨hh, ehh⟩ : ∃ hh, hash a b zs = hh := ⟨_, rfl⟩
            obtain ⟨m0, em0⟩ : ∃ m : Int, byteOf (markA zs) 0 = m := ⟨_, rfl⟩
            obtain ⟨m1, em1⟩ : ∃ m : Int, byteOf (markA zs) 1 = m := ⟨_, rfl⟩
            obtain ⟨m2, em2⟩ : ∃ m : Int, byteOf (markA zs) 2 = m := ⟨_, rfl⟩
            obtain ⟨m3, em3⟩ : ∃ m : Int, byteOf (markA zs) 3 = m := ⟨_, rfl⟩
            obtain ⟨m4, em4⟩ : ∃ m : Int, byteOf (markA zs) 4 = m := ⟨_, rfl⟩
            obtain ⟨m5, em5⟩ : ∃ m : Int, byteOf (markA zs) 5 = m := ⟨_, rfl⟩
            obtain ⟨m6, em6⟩ : ∃ m : Int, byteOf (markA zs) 6 = m := ⟨_, rfl⟩
            obtain ⟨m7, em7⟩ : ∃ m : Int, byteOf (markA zs) 7 = m := ⟨_, rfl⟩
            obtain ⟨m8, em8⟩ : ∃ m : Int, byteOf (markB zs) 0 = m := ⟨_, rfl⟩
            obtain ⟨m9, em9⟩ : ∃ m : Int, byteOf (markB zs) 1 = m := ⟨_, rfl⟩
            obtain ⟨m10, em10⟩ : ∃ m : Int, byteOf (markB zs) 2 = m := ⟨_, rfl⟩
            obtain ⟨m11, em11⟩ : ∃ m : Int, byteOf (markB zs) 3 = m := ⟨_, rfl⟩
            obtain ⟨m12, em12⟩ : ∃ m : Int, byteOf (markB zs) 4 = m := ⟨_, rfl⟩
            obtain ⟨m13, em13⟩ : ∃ m : Int, byteOf (markB zs) 5 = m := ⟨_, rfl⟩
            obtain ⟨m14, em14⟩ : ∃ m : Int, byteOf (markB zs) 6 = m := ⟨_, rfl⟩
            obtain ⟨m15, em15⟩ : ∃ m : Int, byteOf (markB zs) 7 = m := ⟨_, rfl⟩
            obtain ⟨sp, esp⟩ : ∃ sp : Sp, (Sp.init a b).write zs = sp := ⟨_, rfl⟩
            have hme : ∀ w, Sem.run Try.prog (Op.equalIn 10000 32 (.agg #[.int .u8 m0, .int .u8 m1, .int .u8 m2, .int .u8 m3, .int .u8 m4, .int .u8 m5, .int .u8 m6, .int .u8 m7, .int .u8 m8, .int .u8 m9, .int .u8 m10, .int .u8 m11, .int .u8 m12, .int .u8 m13, .int .u8 m14, .int .u8 m15]) (.agg #[.int .u8 m0, .int .u8 m1, .int .u8 m2, .int .u8 m3, .int .u8 m4, .int .u8 m5, .int .u8 m6, .int .u8 m7, .int .u8 m8, .int .u8 m9, .int .u8 m10, .int .u8 m11, .int .u8 m12, .int .u8 m13, .int .u8 m14, .int .u8 m15])) w = .ok true w := fun w => by rw [← em0, ← em1, ← em2, ← em3, ← em4, ← em5, ← em6, ← em7, ← em8, ← em9, ← em10, ← em11, ← em12, ← em13, ← em14, ← em15]; exact mark_same zs w
            have CH : Hid (∀ (v : Value) (ps : List (List Int)) (wx : World), PsSl wx v ps → Hid (ps.flatten = zs) → Calls Try.prog 15 #[.agg #[.int .u64 a, .int .u64 b], v] wx fun e w' => e = .returned (.int .u64 hh) ∧ Kp Nb wx w') := hid (fun v ps wx hp hf => by rw [← ehh]; exact hash_zs a b hp hf.out hn3.out)
            have CS : Hid (∀ wx : World, SipAt wx B sp → Calls Try.prog 24 #[.pointer (some ⟨B, 0, none⟩)] wx fun e w' => e = .returned (.int .u64 hh) ∧ Kp Nb wx w') := hid (fun wx hs => by rw [← ehh]; exact sum_zs a b (by rw [esp]; exact hs) hn3.out)
            have CM : Hid (∀ (v : Value) (wx : World), (∃ ps, PsSl wx v ps ∧ Hid (ps.flatten = zs)) → Calls Try.prog 17 #[v] wx fun e w' => e = .returned (.agg #[.int .u8 m0, .int .u8 m1, .int .u8 m2, .int .u8 m3, .int .u8 m4, .int .u8 m5, .int .u8 m6, .int .u8 m7, .int .u8 m8, .int .u8 m9, .int .u8 m10, .int .u8 m11, .int .u8 m12, .int .u8 m13, .int .u8 m14, .int .u8 m15]) ∧ Kp Nb wx w') := hid (fun v wx ⟨ps, hp, hf⟩ => by rw [← em0, ← em1, ← em2, ← em3, ← em4, ← em5, ← em6, ← em7, ← em8, ← em9, ← em10, ← em11, ← em12, ← em13, ← em14, ← em15]; exact mark_zs hp hf.out hn3.out)
            rw [esp] at HS4
            rw [ehh]
            clear ehh esp em0 em1 em2 em3 em4 em5 em6 em7 em8 em9 em10 em11 em12 em13 em14 em15
            go_region_held3 (fun w' => Hid (Kp Nb w4 w') ∧ w'.cell? ⟨w.heap.size, 0, none⟩ = some (.int .u64 a) ∧ w'.cell? ⟨w.heap.size, 1, none⟩ = some (.int .u64 b))
              (first | exact part_held HB4.out (HK0.out.drew) | exact part_held HB4.out (Kp.alloc (Hid.out (by assumption)) _) | exact part_held HB4.out (Kp.drew (Kp.alloc HK0.out _)) | exact part_held HB4.out kh.out | exact part_held HB4.out (Kp.alloc kh.out _) | exact part_held HB4.out (Kp.alloc (Kp.alloc kh.out _) _))
              (first
                | (go_at_call 15; refine (CH.out _ _ _ (PsSl.kept (PsSl.three HK0.out H1.out H2.out (H3.out _ _) 42) (Kp.drew (Kp.refl _ _))) hfl3).mono ?_; rintro e wy ⟨rfl, kk'⟩; have kk := hid kk'; have kh := hid (Kp.trans (Kp.drew (Kp.alloc HK0.out _)) kk' (fun _ _ h => h)); clear kk')
                | (go_at_call 24; refine (CS.out _ (SipAt.kept HS4.out kh.out (fun h => h))).mono ?_; rintro e wy ⟨rfl, kk'⟩; have kk := hid kk'; have kh := hid (Kp.trans kh.out kk' (fun _ _ h => h)); clear kk')
                | (go_at_call 17
                   refine (CM.out _ _ (by first
                     | with_reducible exact ⟨_, PsSl.two kh.out H4.out (H3.out _ _) 42, hfl2⟩
                     | with_reducible exact ⟨_, PsSl.kept (PsSl.two kh.out H4.out (H3.out _ _) 42) (Kp.alloc (Kp.refl _ _) _), hfl2⟩
                     | with_reducible exact ⟨_, PsSl.two_up kh.out H4.out (H3.out _ _) 42 _, hfl2⟩
                     | with_reducible exact ⟨_, PsSl.kept (PsSl.one_up kh0.out H5.out 42 _) kk.out, hfl1⟩
                     | with_reducible exact ⟨_, PsSl.kept (PsSl.kept (PsSl.one' kh0.out H5.out 42) (Kp.alloc (Kp.refl _ _) _)) kk.out, hfl1⟩
                     | with_reducible exact ⟨_, PsSl.one' kh.out H5.out 42, hfl1⟩)).mono ?_
                   have kh0 := kh
                   rintro e wy ⟨rfl, kk'⟩
                   have kk := hid kk'
                   have kh := hid (Kp.trans (S := Nb) (by first | with_reducible exact kh0.out | with_reducible exact Kp.alloc kh0.out _ | with_reducible exact Kp.alloc (Kp.alloc kh0.out _) _) kk' (fun _ _ h => h))
                   clear kk'))
            all_goals (try go_wp2; go_ret; exact ⟨rfl, HK4.out.trans kh.out (fun _ _ h => h)⟩)
          · have z0 : (0 : Int) ≤ (lo : Int) := by omega
            have z1 : (lo : Int) ≤ (hi : Int) := by omega
            have z4 : (0 : Int) ≤ (hi : Int) := by omega
            have z2 : (hi : Int) ≤ (cap : Int) := by omega
            have z8 : ¬ (cap - hi = 0) := by omega
            have z10 : ¬ (cap = hi) := by omega
            have z11 : hi < cap := by omega
            have z13 : ¬ (cap ≤ hi) := by omega
            have z3 : (lo : Int) ≤ (cap : Int) := by omega
            have z7 : ¬ (cap - lo = 0) := by omega
            have z9 : ¬ (cap = lo) := by omega
            have z12 : lo < cap := by omega
            have z14 : ¬ (cap ≤ lo) := by omega
            have z5 : (hi : Int) ≤ (zs.length : Int) := by omega
            have z6 : (zs.length : Int) ≤ (cap : Int) := by omega
            have z15 : ¬ (cap = 0) := by omega
            have z16 : 0 < cap := by omega
            have H2 : Hid (BySl Nb w4 (.slice (some ⟨blk, off + lo, none⟩) (hi - lo) (cap - lo)) ((zs.drop lo).take (hi - lo))) := hid (by_cut hc hm HZ.out HB5.out lo (hi - lo) (by omega))
            have H3 : Hid (BySl Nb w4 (.slice (some ⟨blk, off + hi, none⟩) (zs.length - hi) (cap - hi)) (zs.drop hi)) := hid (by have := by_cut hc hm HZ.out HB5.out hi (zs.length - hi) (by omega); rwa [List.take_of_length_le (by simp)] at this)
            obtain ⟨hh, ehh⟩ : ∃ hh, hash a b zs = hh := ⟨_, rfl⟩
            obtain ⟨m0, em0⟩ : ∃ m : Int, byteOf (markA zs) 0 = m := ⟨_, rfl⟩
            obtain ⟨m1, em1⟩ : ∃ m : Int, byteOf (markA zs) 1 = m := ⟨_, rfl⟩
            obtain ⟨m2, em2⟩ : ∃ m : Int, byteOf (markA zs) 2 = m := ⟨_, rfl⟩
            obtain ⟨m3, em3⟩ : ∃ m : Int, byteOf (markA zs) 3 = m := ⟨_, rfl⟩
            obtain ⟨m4, em4⟩ : ∃ m : Int, byteOf (markA zs) 4 = m := ⟨_, rfl⟩
            obtain ⟨m5, em5⟩ : ∃ m : Int, byteOf (markA zs) 5 = m := ⟨_, rfl⟩
            obtain ⟨m6, em6⟩ : ∃ m : Int, byteOf (markA zs) 6 = m := ⟨_, rfl⟩
            obtain ⟨m7, em7⟩ : ∃ m : Int, byteOf (markA zs) 7 = m := ⟨_, rfl⟩
            obtain ⟨m8, em8⟩ : ∃ m : Int, byteOf (markB zs) 0 = m := ⟨_, rfl⟩
            obtain ⟨m9, em9⟩ : ∃ m : Int, byteOf (markB zs) 1 = m := ⟨_, rfl⟩
            obtain ⟨m10, em10⟩ : ∃ m : Int, byteOf (markB zs) 2 = m := ⟨_, rfl⟩
            obtain ⟨m11, em11⟩ : ∃ m : Int, byteOf (markB zs) 3 = m := ⟨_, rfl⟩
            obtain ⟨m12, em12⟩ : ∃ m : Int, byteOf (markB zs) 4 = m := ⟨_, rfl⟩
            obtain ⟨m13, em13⟩ : ∃ m : Int, byteOf (markB zs) 5 = m := ⟨_, rfl⟩
            obtain ⟨m14, em14⟩ : ∃ m : Int, byteOf (markB zs) 6 = m := ⟨_, rfl⟩
            obtain ⟨m15, em15⟩ : ∃ m : Int, byteOf (markB zs) 7 = m := ⟨_, rfl⟩
            obtain ⟨sp, esp⟩ : ∃ sp : Sp, (Sp.init a b).write zs = sp := ⟨_, rfl⟩
            have hme : ∀ w, Sem.run Try.prog (Op.equalIn 10000 32 (.agg #[.int .u8 m0, .int .u8 m1, .int .u8 m2, .int .u8 m3, .int .u8 m4, .int .u8 m5, .int .u8 m6, .int .u8 m7, .int .u8 m8, .int .u8 m9, .int .u8 m10, .int .u8 m11, .int .u8 m12, .int .u8 m13, .int .u8 m14, .int .u8 m15]) (.agg #[.int .u8 m0, .int .u8 m1, .int .u8 m2, .int .u8 m3, .int .u8 m4, .int .u8 m5, .int .u8 m6, .int .u8 m7, .int .u8 m8, .int .u8 m9, .int .u8 m10, .int .u8 m11, .int .u8 m12, .int .u8 m13, .int .u8 m14, .int .u8 m15])) w = .ok true w := fun w => by rw [← em0, ← em1, ← em2, ← em3, ← em4, ← em5, ← em6, ← em7, ← em8, ← em9, ← em10, ← em11, ← em12, ← em13, ← em14, ← em15]; exact mark_same zs w
            have CH : Hid (∀ (v : Value) (ps : List (List Int)) (wx : World), PsSl wx v ps → Hid (ps.flatten = zs) → Calls Try.prog 15 #[.agg #[.int .u64 a, .int .u64 b], v] wx fun e w' => e = .returned (.int .u64 hh) ∧ Kp Nb wx w') := hid (fun v ps wx hp hf => by rw [← ehh]; exact hash_zs a b hp hf.out hn3.out)
            have CS : Hid (∀ wx : World, SipAt wx B sp → Calls Try.prog 24 #[.pointer (some ⟨B, 0, none⟩)] wx fun e w' => e = .returned (.int .u64 hh) ∧ Kp Nb wx w') := hid (fun wx hs => by rw [← ehh]; exact sum_zs a b (by rw [esp]; exact hs) hn3.out)
            have CM : Hid (∀ (v : Value) (wx : World), (∃ ps, PsSl wx v ps ∧ Hid (ps.flatten = zs)) → Calls Try.prog 17 #[v] wx fun e w' => e = .returned (.agg #[.int .u8 m0, .int .u8 m1, .int .u8 m2, .int .u8 m3, .int .u8 m4, .int .u8 m5, .int .u8 m6, .int .u8 m7, .int .u8 m8, .int .u8 m9, .int .u8 m10, .int .u8 m11, .int .u8 m12, .int .u8 m13, .int .u8 m14, .int .u8 m15]) ∧ Kp Nb wx w') := hid (fun v wx ⟨ps, hp, hf⟩ => by rw [← em0, ← em1, ← em2, ← em3, ← em4, ← em5, ← em6, ← em7, ← em8, ← em9, ← em10, ← em11, ← em12, ← em13, ← em14, ← em15]; exact mark_zs hp hf.out hn3.out)
            rw [esp] at HS4
            rw [ehh]
            clear ehh esp em0 em1 em2 em3 em4 em5 em6 em7 em8 em9 em10 em11 em12 em13 em14 em15
            go_region_held3 (fun w' => Hid (Kp Nb w4 w') ∧ w'.cell? ⟨w.heap.size, 0, none⟩ = some (.int .u64 a) ∧ w'.cell? ⟨w.heap.size, 1, none⟩ = some (.int .u64 b))
              (first | exact part_held HB4.out (HK0.out.drew) | exact part_held HB4.out (Kp.alloc (Hid.out (by assumption)) _) | exact part_held HB4.out (Kp.drew (Kp.alloc HK0.out _)) | exact part_held HB4.out kh.out | exact part_held HB4.out (Kp.alloc kh.out _) | exact part_held HB4.out (Kp.alloc (Kp.alloc kh.out _) _))
              (first
                | (go_at_call 15; refine (CH.out _ _ _ (PsSl.kept (PsSl.three HK0.out H1.out H2.out H3.out 42) (Kp.drew (Kp.refl _ _))) hfl3).mono ?_; rintro e wy ⟨rfl, kk'⟩; have kk := hid kk'; have kh := hid (Kp.trans (Kp.drew (Kp.alloc HK0.out _)) kk' (fun _ _ h => h)); clear kk')
                | (go_at_call 24; refine (CS.out _ (SipAt.kept HS4.out kh.out (fun h => h))).mono ?_; rintro e wy ⟨rfl, kk'⟩; have kk := hid kk'; have kh := hid (Kp.trans kh.out kk' (fun _ _ h => h)); clear kk')
                | (go_at_call 17
                   refine (CM.out _ _ (by first
                     | with_reducible exact ⟨_, PsSl.two kh.out H4.out H3.out 42, hfl2⟩
                     | with_reducible exact ⟨_, PsSl.kept (PsSl.two kh.out H4.out H3.out 42) (Kp.alloc (Kp.refl _ _) _), hfl2⟩
                     | with_reducible exact ⟨_, PsSl.two_up kh.out H4.out H3.out 42 _, hfl2⟩
                     | with_reducible exact ⟨_, PsSl.kept (PsSl.one_up kh0.out H5.out 42 _) kk.out, hfl1⟩
                     | with_reducible exact ⟨_, PsSl.kept (PsSl.kept (PsSl.one' kh0.out H5.out 42) (Kp.alloc (Kp.refl _ _) _)) kk.out, hfl1⟩
                     | with_reducible exact ⟨_, PsSl.one' kh.out H5.out 42, hfl1⟩)).mono ?_
                   have kh0 := kh
                   rintro e wy ⟨rfl, kk'⟩
                   have kk := hid kk'
                   have kh := hid (Kp.trans (S := Nb) (by first | with_reducible exact kh0.out | with_reducible exact Kp.alloc kh0.out _ | with_reducible exact Kp.alloc (Kp.alloc kh0.out _) _) kk' (fun _ _ h => h))
                   clear kk'))
            all_goals (try go_wp2; go_ret; exact ⟨rfl, HK4.out.trans kh.out (fun _ _ h => h)⟩)

end Go.Proofs.Ytfbpaakgifnmaaa
