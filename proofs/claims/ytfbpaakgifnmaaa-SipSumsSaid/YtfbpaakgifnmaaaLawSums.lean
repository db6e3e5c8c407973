/-
  The statement of layer 1 on sums: sum, mark and seed are the document's. The walk. Condition: lists shorter than 2^62.
-/
import Derived.Test.YtfbpaakgifnmaaaRefE
import Derived.Test.YtfbpaakgifnmaaaPartsKit
namespace Go.Proofs.Ytfbpaakgifnmaaa
open Go.RowKit

theorem PsSl.bytes {w : World} {v : Value} {ps : List (List Int)} (h : PsSl w v ps) : IsBytes ps.flatten := by
  have hall : ∀ i, i < ps.length → IsBytes (ps[i]?.getD []) := by
    rcases h with ⟨_, rfl⟩ | ⟨blk, off, cap, _, _, _, hp⟩
    · intro i hi; simp at hi
    · intro i hi
      obtain ⟨u, _, hb⟩ := hp i hi
      exact hb.1
  refine IsBytes.of fun z hz => ?_
  obtain ⟨l, hl, hzl⟩ := List.mem_flatten.1 hz
  obtain ⟨i, hi, rfl⟩ := List.getElem_of_mem hl
  obtain ⟨j, hj, rfl⟩ := List.getElem_of_mem hzl
  have := hall i hi j
  rw [List.getElem?_eq_getElem hi] at this
  simp only [Option.getD_some] at this
  rw [List.getElem?_eq_getElem hj] at this
  exact this

set_option maxRecDepth 100000 in
set_option maxHeartbeats 3000000 in
theorem sums_walk (a b n : Int) (v : Value) (ps : List (List Int)) (w : World) (hp : PsSl w v ps) (hz : ∀ i, i < ps.length → (ps[i]?.getD []).length < 4611686018427387904) :
    Calls Try.prog 3 #[.agg #[.int .u64 a, .int .u64 b], .int .i64 n, v] w fun e w' => e = .returned (.bool true) ∧ Kp Nb w w' := by
  have HP := hid hp
  have HZ := hid hz
  clear hp hz
  go_enter Try.func3, Try.ntmps3
  go_wp2_with fail
  refine (first_any _).mono ?_
  rintro e w1 ⟨rfl, k1⟩
  have K1 := hid (((Kp.refl Nb w).alloc (.cells #[.int .u64 a, .int .u64 b] 24)).trans k1 (fun _ _ h => h))
  have HA := hid ((Blk.new w 24 [.int .u64 a, .int .u64 b]).kept k1 (fun h => h))
  have HP1 := hid (HP.out.kept K1.out)
  clear k1
  go_wp2_with fail
  refine (great_any v ps _ HP1.out HZ.out).mono ?_
  rintro e w2 ⟨rfl, rfl⟩
  by_cases hg : 3000 < bulk ps
  · have hgt : decide (3000 < bulk ps) = true := by simpa using hg
    rw [hgt]
    go_wp2
    go_ret
    exact ⟨rfl, K1.out⟩
  · have hgt : decide (3000 < bulk ps) = false := by simpa using hg
    rw [hgt]
    have hlen : Hid (ps.flatten.length < 4611686018427387904) := by unfold bulk at hg; unfold Hid; omega
    have HBY := hid (PsSl.bytes HP1.out)
    clear hg hgt
    go_wp2_with fail
    refine (joined_any v ps _ HP1.out hlen.out).mono ?_
    rintro e w3 ⟨rfl, rfl⟩
    go_wp2_with fail
    obtain ⟨S, hS⟩ : ∃ S, S = st ps.flatten := ⟨_, rfl⟩
    rw [← hS]
    have q0 : w1.cell? ⟨w.heap.size, 0, none⟩ = some (.int .u64 a) := HA.out.cell 0
    have q1 : w1.cell? ⟨w.heap.size, 1, none⟩ = some (.int .u64 b) := HA.out.cell 1
    have HK0 := hid (Kp.refl Nb w1)
    obtain ⟨hh, ehh⟩ : ∃ hh, hash a b ps.flatten = hh := ⟨_, rfl⟩
    obtain ⟨sa, esa⟩ : ∃ s, seedA n = s := ⟨_, rfl⟩
    obtain ⟨sb, esb⟩ : ∃ s, seedB n = s := ⟨_, rfl⟩
    obtain ⟨m0, em0⟩ : ∃ m : Int, byteOf (markA ps.flatten) 0 = m := ⟨_, rfl⟩
    obtain ⟨m1, em1⟩ : ∃ m : Int, byteOf (markA ps.flatten) 1 = m := ⟨_, rfl⟩
    obtain ⟨m2, em2⟩ : ∃ m : Int, byteOf (markA ps.flatten) 2 = m := ⟨_, rfl⟩
    obtain ⟨m3, em3⟩ : ∃ m : Int, byteOf (markA ps.flatten) 3 = m := ⟨_, rfl⟩
    obtain ⟨m4, em4⟩ : ∃ m : Int, byteOf (markA ps.flatten) 4 = m := ⟨_, rfl⟩
    obtain ⟨m5, em5⟩ : ∃ m : Int, byteOf (markA ps.flatten) 5 = m := ⟨_, rfl⟩
    obtain ⟨m6, em6⟩ : ∃ m : Int, byteOf (markA ps.flatten) 6 = m := ⟨_, rfl⟩
    obtain ⟨m7, em7⟩ : ∃ m : Int, byteOf (markA ps.flatten) 7 = m := ⟨_, rfl⟩
    obtain ⟨m8, em8⟩ : ∃ m : Int, byteOf (markB ps.flatten) 0 = m := ⟨_, rfl⟩
    obtain ⟨m9, em9⟩ : ∃ m : Int, byteOf (markB ps.flatten) 1 = m := ⟨_, rfl⟩
    obtain ⟨m10, em10⟩ : ∃ m : Int, byteOf (markB ps.flatten) 2 = m := ⟨_, rfl⟩
    obtain ⟨m11, em11⟩ : ∃ m : Int, byteOf (markB ps.flatten) 3 = m := ⟨_, rfl⟩
    obtain ⟨m12, em12⟩ : ∃ m : Int, byteOf (markB ps.flatten) 4 = m := ⟨_, rfl⟩
    obtain ⟨m13, em13⟩ : ∃ m : Int, byteOf (markB ps.flatten) 5 = m := ⟨_, rfl⟩
    obtain ⟨m14, em14⟩ : ∃ m : Int, byteOf (markB ps.flatten) 6 = m := ⟨_, rfl⟩
    obtain ⟨m15, em15⟩ : ∃ m : Int, byteOf (markB ps.flatten) 7 = m := ⟨_, rfl⟩
    have hme : ∀ w, Sem.run Try.prog (Op.equalIn 10000 32 (.agg #[.int .u8 m0, .int .u8 m1, .int .u8 m2, .int .u8 m3, .int .u8 m4, .int .u8 m5, .int .u8 m6, .int .u8 m7, .int .u8 m8, .int .u8 m9, .int .u8 m10, .int .u8 m11, .int .u8 m12, .int .u8 m13, .int .u8 m14, .int .u8 m15]) (.agg #[.int .u8 m0, .int .u8 m1, .int .u8 m2, .int .u8 m3, .int .u8 m4, .int .u8 m5, .int .u8 m6, .int .u8 m7, .int .u8 m8, .int .u8 m9, .int .u8 m10, .int .u8 m11, .int .u8 m12, .int .u8 m13, .int .u8 m14, .int .u8 m15])) w = .ok true w := fun w => by rw [← em0, ← em1, ← em2, ← em3, ← em4, ← em5, ← em6, ← em7, ← em8, ← em9, ← em10, ← em11, ← em12, ← em13, ← em14, ← em15]; exact mark_same ps.flatten w
    have CH : Hid (∀ wx : World, Kp Nb w1 wx → Calls Try.prog 15 #[.agg #[.int .u64 a, .int .u64 b], v] wx fun e w' => e = .returned (.int .u64 hh) ∧ Kp Nb wx w') := hid (fun wx k => by rw [← ehh]; exact hash_any a b v ps wx (HP1.out.kept k) hlen.out)
    have CR : Hid (∀ wx : World, Calls Try.prog 16 #[.agg #[.int .u64 a, .int .u64 b], .string S] wx fun e w' => e = .returned (.int .u64 hh) ∧ Kp Nb wx w') := hid (fun wx => by rw [← ehh, hS]; exact ref_hash a b ps.flatten wx HBY.out hlen.out)
    have CM : Hid (∀ wx : World, Kp Nb w1 wx → Calls Try.prog 17 #[v] wx fun e w' => e = .returned (.agg #[.int .u8 m0, .int .u8 m1, .int .u8 m2, .int .u8 m3, .int .u8 m4, .int .u8 m5, .int .u8 m6, .int .u8 m7, .int .u8 m8, .int .u8 m9, .int .u8 m10, .int .u8 m11, .int .u8 m12, .int .u8 m13, .int .u8 m14, .int .u8 m15]) ∧ Kp Nb wx w') := hid (fun wx k => by rw [← em0, ← em1, ← em2, ← em3, ← em4, ← em5, ← em6, ← em7, ← em8, ← em9, ← em10, ← em11, ← em12, ← em13, ← em14, ← em15]; exact mark_any v ps wx (HP1.out.kept k) hlen.out)
    have CN : Hid (∀ wx : World, Calls Try.prog 18 #[.string S] wx fun e w' => e = .returned (.agg #[.int .u8 m0, .int .u8 m1, .int .u8 m2, .int .u8 m3, .int .u8 m4, .int .u8 m5, .int .u8 m6, .int .u8 m7, .int .u8 m8, .int .u8 m9, .int .u8 m10, .int .u8 m11, .int .u8 m12, .int .u8 m13, .int .u8 m14, .int .u8 m15]) ∧ Kp Nb wx w') := hid (fun wx => by rw [← em0, ← em1, ← em2, ← em3, ← em4, ← em5, ← em6, ← em7, ← em8, ← em9, ← em10, ← em11, ← em12, ← em13, ← em14, ← em15, hS]; exact ref_mark ps.flatten wx HBY.out hlen.out)
    have CS : Hid (∀ wx : World, Calls Try.prog 19 #[.int .i64 n] wx fun e w' => e = .returned (.agg #[.int .u64 sa, .int .u64 sb]) ∧ Kp Nb wx w') := hid (fun wx => by rw [← esa, ← esb]; exact seed_any n wx)
    have CT : Hid (∀ wx : World, Calls Try.prog 20 #[.int .i64 n] wx fun e w' => e = .returned (.agg #[.int .u64 sa, .int .u64 sb]) ∧ Kp Nb wx w') := hid (fun wx => by rw [← esa, ← esb]; exact ref_seed n wx)
    clear ehh esa esb hS em0 em1 em2 em3 em4 em5 em6 em7 em8 em9 em10 em11 em12 em13 em14 em15
    go_region_held3 (fun w' => Hid (Kp Nb w1 w') ∧ w'.cell? ⟨w.heap.size, 0, none⟩ = some (.int .u64 a) ∧ w'.cell? ⟨w.heap.size, 1, none⟩ = some (.int .u64 b))
      (first | exact part_held HA.out (HK0.out.drew) | exact part_held HA.out kh.out)
      (first
        | (go_at_call 15; refine (CH.out _ (Kp.drew HK0.out)).mono ?_; rintro e wy ⟨rfl, kk'⟩; have kh := hid (Kp.trans (Kp.drew HK0.out) kk' (fun _ _ h => h)); clear kk')
        | (go_at_call 16; refine (CR.out _).mono ?_; rintro e wy ⟨rfl, kk'⟩; have kh := hid (Kp.trans kh.out kk' (fun _ _ h => h)); clear kk')
        | (go_at_call 17; refine (CM.out _ kh.out).mono ?_; rintro e wy ⟨rfl, kk'⟩; have kh := hid (Kp.trans kh.out kk' (fun _ _ h => h)); clear kk')
        | (go_at_call 18; refine (CN.out _).mono ?_; rintro e wy ⟨rfl, kk'⟩; have kh := hid (Kp.trans kh.out kk' (fun _ _ h => h)); clear kk')
        | (go_at_call 19; refine (CS.out _).mono ?_; rintro e wy ⟨rfl, kk'⟩; have kh := hid (Kp.trans kh.out kk' (fun _ _ h => h)); clear kk')
        | (go_at_call 20; refine (CT.out _).mono ?_; rintro e wy ⟨rfl, kk'⟩; have kh := hid (Kp.trans kh.out kk' (fun _ _ h => h)); clear kk'))
    all_goals (try go_wp2; go_ret; exact ⟨rfl, K1.out.trans kh.out (fun _ _ h => h)⟩)

end Go.Proofs.Ytfbpaakgifnmaaa
