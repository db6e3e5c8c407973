/-
  The statement of layer 1 on parts, for no bytes at all (a nil slice, or one of length 0). The walk.
-/
import Derived.Test.YtfbpaakgifnmaaaPartsKit
namespace Go.Proofs.Ytfbpaakgifnmaaa
open Go.RowKit

set_option maxRecDepth 100000 in
set_option maxHeartbeats 3000000 in
theorem parts_none (a b c0 c1 : Int) (x : Option Addr) (cap : Nat) (w : World) (hm : cap ≤ maxLen) (r0 : 0 ≤ c0 ∧ c0 < 65536) (r1 : 0 ≤ c1 ∧ c1 < 65536) :
    Calls Try.prog 5 #[.agg #[.int .u64 a, .int .u64 b], .slice x 0 cap, .agg #[.int .u16 c0, .int .u16 c1]] w fun e w' => e = .returned (.bool true) ∧ Kp Nb w w' := by
  unfold maxLen at hm
  go_enter Try.func5, Try.ntmps5
  go_wp2_with fail
  refine (first_any _).mono ?_
  rintro e w1 ⟨rfl, k1⟩
  have K1 := hid ((((Kp.refl Nb w).alloc (.cells #[.int .u64 a, .int .u64 b] 24)).alloc (.cells #[.int .u16 c0, .int .u16 c1] 52)).trans k1 (fun _ _ h => h))
  have HA := hid (((Blk.new w 24 [.int .u64 a, .int .u64 b]).alloc (.cells #[.int .u16 c0, .int .u16 c1] 52)).kept k1 (fun h => h))
  have HC := hid ((Blk.new (w.alloc (.cells #[.int .u64 a, .int .u64 b] 24)) 52 [.int .u16 c0, .int .u16 c1]).kept k1 (fun h => h))
  clear k1
  have q0 : w1.cell? ⟨w.heap.size + 1, 0, none⟩ = some (.int .u16 c0) := by have := HC.out.cell 0; rw [World.size_alloc] at this; exact this
  have q1 : w1.cell? ⟨w.heap.size + 1, 1, none⟩ = some (.int .u16 c1) := by have := HC.out.cell 1; rw [World.size_alloc] at this; exact this
  go_wp2
  go_quiet (fail)
  have HM : Hid (Kp Nb w (w1.drewN nq)) := by unfold Hid; exact K1.out.drewN nq
  have HA2 : Hid (Blk (w1.drewN nq) w.heap.size 24 [.int .u64 a, .int .u64 b]) := HA.out.drewN nq
  generalize w1.drewN nq = w2 at HM HA2 ⊢
  clear K1 HA HC
  have q0 : w2.cell? ⟨w.heap.size, 0, none⟩ = some (.int .u64 a) := HA2.out.cell 0
  have q1 : w2.cell? ⟨w.heap.size, 1, none⟩ = some (.int .u64 b) := HA2.out.cell 1
  go_wp2_with fail
  refine (new_any _ _ _).mono ?_
  rintro e w3 ⟨B, hB, rfl, h3, k3⟩
  have HS3 := hid h3
  have HM3 := hid (HM.out.trans k3 (fun _ _ h => h))
  have HA3 := hid (HA2.out.kept k3 (fun h => h))
  clear h3 k3 hB q0 q1 HM HA2
  go_wp2
  refine wp_loop_rounds 1 ?_
  rw [rounds_succ]
  have q0 : w3.cell? ⟨w.heap.size, 0, none⟩ = some (.int .u64 a) := HA3.out.cell 0
  have q1 : w3.cell? ⟨w.heap.size, 1, none⟩ = some (.int .u64 b) := HA3.out.cell 1
  go_wp2_with fail
  have HP1 := hid (PsSl.one (show BySl Nb w3 (.slice x 0 cap) [] from ⟨fun i => by simp, .inl ⟨⟨_, _, rfl⟩, rfl⟩⟩) 42)
  refine (hash_any _ _ _ _ _ HP1.out (by simp)).mono ?_
  rintro e w4 ⟨rfl, k4⟩
  rw [List.flatten_singleton]
  have HK4 := hid ((HM3.out.alloc (.cells #[.slice x 0 cap] 42)).trans k4 (fun _ _ h => h))
  have HB4 := hid ((HA3.out.alloc (.cells #[.slice x 0 cap] 42)).kept k4 (fun h => h))
  have HS4 : Hid (SipAt w4 B ((Sp.init a b).write [])) := hid (HS3.out.kept ((Kp.refl Nb w3).alloc (.cells #[.slice x 0 cap] 42) |>.trans k4 (fun _ _ h => h)) (fun h => h))
  clear k4 q0 q1 HM3 HA3 HS3
  have q0 : w4.cell? ⟨w.heap.size, 0, none⟩ = some (.int .u64 a) := HB4.out.cell 0
  have q1 : w4.cell? ⟨w.heap.size, 1, none⟩ = some (.int .u64 b) := HB4.out.cell 1
  go_wp2_with fail
  have HK0 := hid (Kp.refl Nb w4)
  have HE : Hid (∀ (x : Option Addr) (c : Nat), BySl Nb w4 (.slice x 0 c) []) := hid (fun x c => ⟨fun i => by simp, .inl ⟨⟨_, _, rfl⟩, rfl⟩⟩)
  have hn3 : Hid (([] : List Int).length ≤ 3000) := hid (by decide)
  have hfl3 : Hid ([([] : List Int), [], []].flatten = []) := hid rfl
  have hfl2 : Hid ([([] : List Int), []].flatten = []) := hid rfl
  have hfl1 : Hid ([([] : List Int)].flatten = []) := hid rfl
  by_cases hcap : cap = 0
  · subst hcap
    obtain ⟨hh, ehh⟩ : ∃ hh, hash a b [] = hh := ⟨_, rfl⟩
    obtain ⟨m0, em0⟩ : ∃ m : Int, byteOf (markA []) 0 = m := ⟨_, rfl⟩
    obtain ⟨m1, em1⟩ : ∃ m : Int, byteOf (markA []) 1 = m := ⟨_, rfl⟩
    obtain ⟨m2, em2⟩ : ∃ m : Int, byteOf (markA []) 2 = m := ⟨_, rfl⟩
    obtain ⟨m3, em3⟩ : ∃ m : Int, byteOf (markA []) 3 = m := ⟨_, rfl⟩
    obtain ⟨m4, em4⟩ : ∃ m : Int, byteOf (markA []) 4 = m := ⟨_, rfl⟩
    obtain ⟨m5, em5⟩ : ∃ m : Int, byteOf (markA []) 5 = m := ⟨_, rfl⟩
    obtain ⟨m6, em6⟩ : ∃ m : Int, byteOf (markA []) 6 = m := ⟨_, rfl⟩
    obtain ⟨m7, em7⟩ : ∃ m : Int, byteOf (markA []) 7 = m := ⟨_, rfl⟩
    obtain ⟨m8, em8⟩ : ∃ m : Int, byteOf (markB []) 0 = m := ⟨_, rfl⟩
    obtain ⟨m9, em9⟩ : ∃ m : Int, byteOf (markB []) 1 = m := ⟨_, rfl⟩
    obtain ⟨m10, em10⟩ : ∃ m : Int, byteOf (markB []) 2 = m := ⟨_, rfl⟩
    obtain ⟨m11, em11⟩ : ∃ m : Int, byteOf (markB []) 3 = m := ⟨_, rfl⟩
    obtain ⟨m12, em12⟩ : ∃ m : Int, byteOf (markB []) 4 = m := ⟨_, rfl⟩
    obtain ⟨m13, em13⟩ : ∃ m : Int, byteOf (markB []) 5 = m := ⟨_, rfl⟩
    obtain ⟨m14, em14⟩ : ∃ m : Int, byteOf (markB []) 6 = m := ⟨_, rfl⟩
    obtain ⟨m15, em15⟩ : ∃ m : Int, byteOf (markB []) 7 = m := ⟨_, rfl⟩
    obtain ⟨sp, esp⟩ : ∃ sp : Sp, (Sp.init a b).write [] = sp := ⟨_, rfl⟩
    have hme : ∀ w, Sem.run Try.prog (Op.equalIn 10000 32 (.agg #[.int .u8 m0, .int .u8 m1, .int .u8 m2, .int .u8 m3, .int .u8 m4, .int .u8 m5, .int .u8 m6, .int .u8 m7, .int .u8 m8, .int .u8 m9, .int .u8 m10, .int .u8 m11, .int .u8 m12, .int .u8 m13, .int .u8 m14, .int .u8 m15]) (.agg #[.int .u8 m0, .int .u8 m1, .int .u8 m2, .int .u8 m3, .int .u8 m4, .int .u8 m5, .int .u8 m6, .int .u8 m7, .int .u8 m8, .int .u8 m9, .int .u8 m10, .int .u8 m11, .int .u8 m12, .int .u8 m13, .int .u8 m14, .int .u8 m15])) w = .ok true w := fun w => by rw [← em0, ← em1, ← em2, ← em3, ← em4, ← em5, ← em6, ← em7, ← em8, ← em9, ← em10, ← em11, ← em12, ← em13, ← em14, ← em15]; exact mark_same [] w
    have CH : Hid (∀ (v : Value) (ps : List (List Int)) (wx : World), PsSl wx v ps → Hid (ps.flatten = []) → Calls Try.prog 15 #[.agg #[.int .u64 a, .int .u64 b], v] wx fun e w' => e = .returned (.int .u64 hh) ∧ Kp Nb wx w') := hid (fun v ps wx hp hf => by rw [← ehh]; exact hash_zs a b hp hf.out hn3.out)
    have CS : Hid (∀ wx : World, SipAt wx B sp → Calls Try.prog 24 #[.pointer (some ⟨B, 0, none⟩)] wx fun e w' => e = .returned (.int .u64 hh) ∧ Kp Nb wx w') := hid (fun wx hs => by rw [← ehh]; exact sum_zs a b (by rw [esp]; exact hs) hn3.out)
    have CM : Hid (∀ (v : Value) (wx : World), (∃ ps, PsSl wx v ps ∧ Hid (ps.flatten = [])) → Calls Try.prog 17 #[v] wx fun e w' => e = .returned (.agg #[.int .u8 m0, .int .u8 m1, .int .u8 m2, .int .u8 m3, .int .u8 m4, .int .u8 m5, .int .u8 m6, .int .u8 m7, .int .u8 m8, .int .u8 m9, .int .u8 m10, .int .u8 m11, .int .u8 m12, .int .u8 m13, .int .u8 m14, .int .u8 m15]) ∧ Kp Nb wx w') := hid (fun v wx ⟨ps, hp, hf⟩ => by rw [← em0, ← em1, ← em2, ← em3, ← em4, ← em5, ← em6, ← em7, ← em8, ← em9, ← em10, ← em11, ← em12, ← em13, ← em14, ← em15]; exact mark_zs hp hf.out hn3.out)
    rw [esp] at HS4
    rw [ehh]
    clear ehh esp em0 em1 em2 em3 em4 em5 em6 em7 em8 em9 em10 em11 em12 em13 em14 em15
    go_region_held3 (fun w' => Hid (Kp Nb w4 w') ∧ w'.cell? ⟨w.heap.size, 0, none⟩ = some (.int .u64 a) ∧ w'.cell? ⟨w.heap.size, 1, none⟩ = some (.int .u64 b))
      (first | exact part_held HB4.out (HK0.out.drew) | exact part_held HB4.out (Kp.alloc (Hid.out (by assumption)) _) | exact part_held HB4.out (Kp.drew (Kp.alloc HK0.out _)) | exact part_held HB4.out kh.out | exact part_held HB4.out (Kp.alloc kh.out _) | exact part_held HB4.out (Kp.alloc (Kp.alloc kh.out _) _))
      (first
        | (go_at_call 15; refine (CH.out _ _ _ (PsSl.kept (PsSl.three HK0.out (HE.out _ _) (HE.out _ _) (HE.out _ _) 42) (Kp.drew (Kp.refl _ _))) hfl3).mono ?_; rintro e wy ⟨rfl, kk'⟩; have kk := hid kk'; have kh := hid (Kp.trans (Kp.drew (Kp.alloc HK0.out _)) kk' (fun _ _ h => h)); clear kk')
        | (go_at_call 24; refine (CS.out _ (SipAt.kept HS4.out kh.out (fun h => h))).mono ?_; rintro e wy ⟨rfl, kk'⟩; have kk := hid kk'; have kh := hid (Kp.trans kh.out kk' (fun _ _ h => h)); clear kk')
        | (go_at_call 17
           refine (CM.out _ _ (by first
             | with_reducible exact ⟨_, PsSl.two kh.out (HE.out _ _) (HE.out _ _) 42, hfl2⟩
             | with_reducible exact ⟨_, PsSl.kept (PsSl.two kh.out (HE.out _ _) (HE.out _ _) 42) (Kp.alloc (Kp.refl _ _) _), hfl2⟩
             | with_reducible exact ⟨_, PsSl.two_up kh.out (HE.out _ _) (HE.out _ _) 42 _, hfl2⟩
             | with_reducible exact ⟨_, PsSl.kept (PsSl.one_up kh0.out (HE.out _ _) 42 _) kk.out, hfl1⟩
             | with_reducible exact ⟨_, PsSl.kept (PsSl.kept (PsSl.one' kh0.out (HE.out _ _) 42) (Kp.alloc (Kp.refl _ _) _)) kk.out, hfl1⟩
             | with_reducible exact ⟨_, PsSl.one' kh.out (HE.out _ _) 42, hfl1⟩)).mono ?_
           have kh0 := kh
           rintro e wy ⟨rfl, kk'⟩
           have kk := hid kk'
           have kh := hid (Kp.trans (S := Nb) (by first | with_reducible exact kh0.out | with_reducible exact Kp.alloc kh0.out _ | with_reducible exact Kp.alloc (Kp.alloc kh0.out _) _) kk' (fun _ _ h => h))
           clear kk'))
    all_goals (try go_wp2; go_ret; exact ⟨rfl, HK4.out.trans kh.out (fun _ _ h => h)⟩)
  · have z2 : ¬ (0 = cap) := by omega
    have z3 : 0 < cap := by omega
    obtain ⟨hh, ehh⟩ : ∃ hh, hash a b [] = hh := ⟨_, rfl⟩
    obtain ⟨m0, em0⟩ : ∃ m : Int, byteOf (markA []) 0 = m := ⟨_, rfl⟩
    obtain ⟨m1, em1⟩ : ∃ m : Int, byteOf (markA []) 1 = m := ⟨_, rfl⟩
    obtain ⟨m2, em2⟩ : ∃ m : Int, byteOf (markA []) 2 = m := ⟨_, rfl⟩
    obtain ⟨m3, em3⟩ : ∃ m : Int, byteOf (markA []) 3 = m := ⟨_, rfl⟩
    obtain ⟨m4, em4⟩ : ∃ m : Int, byteOf (markA []) 4 = m := ⟨_, rfl⟩
    obtain ⟨m5, em5⟩ : ∃ m : Int, byteOf (markA []) 5 = m := ⟨_, rfl⟩
    obtain ⟨m6, em6⟩ : ∃ m : Int, byteOf (markA []) 6 = m := ⟨_, rfl⟩
    obtain ⟨m7, em7⟩ : ∃ m : Int, byteOf (markA []) 7 = m := ⟨_, rfl⟩
    obtain ⟨m8, em8⟩ : ∃ m : Int, byteOf (markB []) 0 = m := ⟨_, rfl⟩
    obtain ⟨m9, em9⟩ : ∃ m : Int, byteOf (markB []) 1 = m := ⟨_, rfl⟩
    obtain ⟨m10, em10⟩ : ∃ m : Int, byteOf (markB []) 2 = m := ⟨_, rfl⟩
    obtain ⟨m11, em11⟩ : ∃ m : Int, byteOf (markB []) 3 = m := ⟨_, rfl⟩
    obtain ⟨m12, em12⟩ : ∃ m : Int, byteOf (markB []) 4 = m := ⟨_, rfl⟩
    obtain ⟨m13, em13⟩ : ∃ m : Int, byteOf (markB []) 5 = m := ⟨_, rfl⟩
    obtain ⟨m14, em14⟩ : ∃ m : Int, byteOf (markB []) 6 = m := ⟨_, rfl⟩
    obtain ⟨m15, em15⟩ : ∃ m : Int, byteOf (markB []) 7 = m := ⟨_, rfl⟩
    obtain ⟨sp, esp⟩ : ∃ sp : Sp, (Sp.init a b).write [] = sp := ⟨_, rfl⟩
    have hme : ∀ w, Sem.run Try.prog (Op.equalIn 10000 32 (.agg #[.int .u8 m0, .int .u8 m1, .int .u8 m2, .int .u8 m3, .int .u8 m4, .int .u8 m5, .int .u8 m6, .int .u8 m7, .int .u8 m8, .int .u8 m9, .int .u8 m10, .int .u8 m11, .int .u8 m12, .int .u8 m13, .int .u8 m14, .int .u8 m15]) (.agg #[.int .u8 m0, .int .u8 m1, .int .u8 m2, .int .u8 m3, .int .u8 m4, .int .u8 m5, .int .u8 m6, .int .u8 m7, .int .u8 m8, .int .u8 m9, .int .u8 m10, .int .u8 m11, .int .u8 m12, .int .u8 m13, .int .u8 m14, .int .u8 m15])) w = .ok true w := fun w => by rw [← em0, ← em1, ← em2, ← em3, ← em4, ← em5, ← em6, ← em7, ← em8, ← em9, ← em10, ← em11, ← em12, ← em13, ← em14, ← em15]; exact mark_same [] w
    have CH : Hid (∀ (v : Value) (ps : List (List Int)) (wx : World), PsSl wx v ps → Hid (ps.flatten = []) → Calls Try.prog 15 #[.agg #[.int .u64 a, .int .u64 b], v] wx fun e w' => e = .returned (.int .u64 hh) ∧ Kp Nb wx w') := hid (fun v ps wx hp hf => by rw [← ehh]; exact hash_zs a b hp hf.out hn3.out)
    have CS : Hid (∀ wx : World, SipAt wx B sp → Calls Try.prog 24 #[.pointer (some ⟨B, 0, none⟩)] wx fun e w' => e = .returned (.int .u64 hh) ∧ Kp Nb wx w') := hid (fun wx hs => by rw [← ehh]; exact sum_zs a b (by rw [esp]; exact hs) hn3.out)
    have CM : Hid (∀ (v : Value) (wx : World), (∃ ps, PsSl wx v ps ∧ Hid (ps.flatten = [])) → Calls Try.prog 17 #[v] wx fun e w' => e = .returned (.agg #[.int .u8 m0, .int .u8 m1, .int .u8 m2, .int .u8 m3, .int .u8 m4, .int .u8 m5, .int .u8 m6, .int .u8 m7, .int .u8 m8, .int .u8 m9, .int .u8 m10, .int .u8 m11, .int .u8 m12, .int .u8 m13, .int .u8 m14, .int .u8 m15]) ∧ Kp Nb wx w') := hid (fun v wx ⟨ps, hp, hf⟩ => by rw [← em0, ← em1, ← em2, ← em3, ← em4, ← em5, ← em6, ← em7, ← em8, ← em9, ← em10, ← em11, ← em12, ← em13, ← em14, ← em15]; exact mark_zs hp hf.out hn3.out)
    rw [esp] at HS4
    rw [ehh]
    clear ehh esp em0 em1 em2 em3 em4 em5 em6 em7 em8 em9 em10 em11 em12 em13 em14 em15
    go_region_held3 (fun w' => Hid (Kp Nb w4 w') ∧ w'.cell? ⟨w.heap.size, 0, none⟩ = some (.int .u64 a) ∧ w'.cell? ⟨w.heap.size, 1, none⟩ = some (.int .u64 b))
      (first | exact part_held HB4.out (HK0.out.drew) | exact part_held HB4.out (Kp.alloc (Hid.out (by assumption)) _) | exact part_held HB4.out (Kp.drew (Kp.alloc HK0.out _)) | exact part_held HB4.out kh.out | exact part_held HB4.out (Kp.alloc kh.out _) | exact part_held HB4.out (Kp.alloc (Kp.alloc kh.out _) _))
      (first
        | (go_at_call 15; refine (CH.out _ _ _ (PsSl.kept (PsSl.three HK0.out (HE.out _ _) (HE.out _ _) (HE.out _ _) 42) (Kp.drew (Kp.refl _ _))) hfl3).mono ?_; rintro e wy ⟨rfl, kk'⟩; have kk := hid kk'; have kh := hid (Kp.trans (Kp.drew (Kp.alloc HK0.out _)) kk' (fun _ _ h => h)); clear kk')
        | (go_at_call 24; refine (CS.out _ (SipAt.kept HS4.out kh.out (fun h => h))).mono ?_; rintro e wy ⟨rfl, kk'⟩; have kk := hid kk'; have kh := hid (Kp.trans kh.out kk' (fun _ _ h => h)); clear kk')
        | (go_at_call 17
           refine (CM.out _ _ (by first
             | with_reducible exact ⟨_, PsSl.two kh.out (HE.out _ _) (HE.out _ _) 42, hfl2⟩
             | with_reducible exact ⟨_, PsSl.kept (PsSl.two kh.out (HE.out _ _) (HE.out _ _) 42) (Kp.alloc (Kp.refl _ _) _), hfl2⟩
             | with_reducible exact ⟨_, PsSl.two_up kh.out (HE.out _ _) (HE.out _ _) 42 _, hfl2⟩
             | with_reducible exact ⟨_, PsSl.kept (PsSl.one_up kh0.out (HE.out _ _) 42 _) kk.out, hfl1⟩
             | with_reducible exact ⟨_, PsSl.kept (PsSl.kept (PsSl.one' kh0.out (HE.out _ _) 42) (Kp.alloc (Kp.refl _ _) _)) kk.out, hfl1⟩
             | with_reducible exact ⟨_, PsSl.one' kh.out (HE.out _ _) 42, hfl1⟩)).mono ?_
           have kh0 := kh
           rintro e wy ⟨rfl, kk'⟩
           have kk := hid kk'
           have kh := hid (Kp.trans (S := Nb) (by first | with_reducible exact kh0.out | with_reducible exact Kp.alloc kh0.out _ | with_reducible exact Kp.alloc (Kp.alloc kh0.out _) _) kk' (fun _ _ h => h))
           clear kk'))
    all_goals (try go_wp2; go_ret; exact ⟨rfl, HK4.out.trans kh.out (fun _ _ h => h)⟩)

end Go.Proofs.Ytfbpaakgifnmaaa
