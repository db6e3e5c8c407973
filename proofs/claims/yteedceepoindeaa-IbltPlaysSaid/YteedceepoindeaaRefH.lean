/-
  Walk of the document's own sum for layer 1: Hash. Condition: fewer than 2^62 bytes.
-/
import Derived.Test.YteedceepoindeaaRefA
import Derived.Test.YteedceepoindeaaRefP
import Derived.Test.YteedceepoindeaaJoined
namespace Go.Proofs.Yteedceepoindeaa
open Go.RowKit

def PadR (zs : List Int) (s : Value) : Prop := ∃ k : Nat, k ≤ 7 - zs.length % 8 ∧ s = .string (st (zs ++ List.replicate k 0))
def strOf : Value → Nat | .string s => s.size | _ => 0
def V4.cells (v : V4) : List Value := [.int .u64 v.a, .int .u64 v.b, .int .u64 v.c, .int .u64 v.d]
def MainR (a b : Int) (zs : List Int) (w : World) (s : Value) (wr : World) : Prop :=
  ∃ j : Nat, j ≤ zs.length / 8 + 1 ∧ s = .string (st ((padded zs).drop (8 * j))) ∧ Hid (Blk wr (w.heap.size + 1) 104 (atWord a b zs j).cells) ∧ Hid (Kp Nb w wr)
def WordR (ys : List Int) (x i : Value) : Prop := ∃ k : Nat, k ≤ 8 ∧ i = .int .i64 ((k : Int) - 1) ∧ x = .int .u64 (num (ys.drop k))

theorem st_zero (zs : List Int) : st zs ++ (⟨#[0]⟩ : ByteArray) = st (zs ++ [0]) := by rw [st_append]; rfl

theorem idx_any (zs : List Int) (w : World) (hz : IsBytes zs) (i : Nat) (hi : i < zs.length) :
    (Instr.index 9 (.string (st zs)) (.int .i64 i)).run Try.prog w = .ok (.int .u8 (zs[i]?.getD 0)) w := by
  rw [run_index_string (P := Try.prog) w 9 (st zs) .i64 i Try.underlying9, dif_pos ⟨by omega, by rw [st_size]; omega⟩]
  have h := hz i
  have e : ((st zs)[(i : Int).toNat]'(by rw [st_size]; omega)) = UInt8.ofNat (zs[i]?.getD 0).toNat := by
    show ((zs.map fun z => UInt8.ofNat z.toNat).toArray)[(i : Int).toNat]'_ = _
    rw [List.getElem?_eq_getElem hi]
    simp
  rw [e]
  congr 2
  rw [UInt8.toNat_ofNat']
  omega

theorem st_extract (zs : List Int) (n : Nat) : (st zs).extract n zs.length = st (zs.drop n) := by
  apply ByteArray.ext
  simp [st, ByteArray.data_extract]
  exact List.take_of_length_le (by simp)

theorem conv_one (w : World) (x : Int) (h0 : 0 ≤ x) (h1 : x < 256) :
    (convert 68 9 (.slice (some ⟨w.heap.size, 0, none⟩) 1 1)).run Try.prog (w.alloc (.cells #[.int .u8 x] 5)) = .ok (.string (st [x])) (w.alloc (.cells #[.int .u8 x] 5)) :=
  conv_any (BySl.lit w 5 [x] (by simpa using ⟨h0, h1⟩) (by show 1 ≤ maxLen; decide) Nb (fun h => h))

set_option maxRecDepth 100000 in
set_option maxHeartbeats 1000000 in
theorem ref_hash (a b : Int) (zs : List Int) (w : World) (hz : IsBytes zs) (hl : zs.length < 4611686018427387904) :
    Calls Try.prog 40 #[.agg #[.int .u64 a, .int .u64 b], .string (st zs)] w fun e w' => e = .returned (.int .u64 (hash a b zs)) ∧ Kp Nb w w' := by
  have HZ := hid hz
  have HL := hid hl
  clear hz hl
  have hst := st_size zs
  go_enter Try.func40, Try.ntmps40
  go_wp2_with fail
  have HK1 := hid (((Kp.refl Nb w).alloc (.cells #[.int .u64 a, .int .u64 b] 80)).alloc (.cells #[.int .u64 (bits .xor .u64 a 8317987319222330741), .int .u64 (bits .xor .u64 b 7237128888997146477), .int .u64 (bits .xor .u64 a 7816392313619706465), .int .u64 (bits .xor .u64 b 8387220255154660723)] 104))
  have HB1 : Hid (Blk (World.alloc (World.alloc w (.cells #[.int .u64 a, .int .u64 b] 80)) (.cells #[.int .u64 (bits .xor .u64 a 8317987319222330741), .int .u64 (bits .xor .u64 b 7237128888997146477), .int .u64 (bits .xor .u64 a 7816392313619706465), .int .u64 (bits .xor .u64 b 8387220255154660723)] 104)) (w.heap.size + 1) 104 (atWord a b zs 0).cells) := by
    rw [word_first]
    have := Blk.new (World.alloc w (.cells #[.int .u64 a, .int .u64 b] 80)) 104 (Sp.init a b).v.cells
    rw [World.size_alloc] at this
    exact this
  obtain ⟨w1, hW⟩ : ∃ w1, w1 = (World.alloc (World.alloc w (.cells #[.int .u64 a, .int .u64 b] 80)) (.cells #[.int .u64 (bits .xor .u64 a 8317987319222330741), .int .u64 (bits .xor .u64 b 7237128888997146477), .int .u64 (bits .xor .u64 a 7816392313619706465), .int .u64 (bits .xor .u64 b 8387220255154660723)] 104)) := ⟨_, rfl⟩
  rw [← hW] at HB1 HK1 ⊢
  clear hW
  go_loop [1] (PadR zs) (fun s => zs.length + 8 - strOf s)
  case atStart => exact ⟨0, Nat.zero_le _, by simp⟩
  case round =>
    obtain ⟨k, hk, rfl⟩ := hrel
    have hsz : (st (zs ++ List.replicate k 0)).size = zs.length + k := by rw [st_size]; simp
    by_cases hlt : k < 7 - zs.length % 8
    · have HR := hid (show PadR zs (.string (st (zs ++ List.replicate k 0) ++ ⟨#[0]⟩)) from ⟨k + 1, by omega, by rw [st_zero, List.append_assoc, ← List.replicate_succ']⟩)
      have HM := hid (show zs.length + 8 - strOf (.string (st (zs ++ List.replicate k 0) ++ ⟨#[0]⟩)) < zs.length + 8 - strOf (.string (st (zs ++ List.replicate k 0))) from by
        rw [st_zero]; simp only [strOf]; rw [hsz, st_size]; simp; omega)
      have g1 : (((zs.length : Int) + k) % 8 != 7) = true := by rw [bne_iff_ne]; omega
      have g2 : ¬ (9223372036854775807 < (st (zs ++ List.replicate k 0)).size + 1) := by rw [hsz]; have := HL.out; omega
      go_wp2
      exact ⟨HR.out, HM.out⟩
    · obtain rfl : k = 7 - zs.length % 8 := by omega
      have hc := fun w => conv_one w ((zs.length : Int) % 256) (by omega) (by omega)
      have g1 : (((zs.length : Int) + (7 - zs.length % 8 : Nat)) % 8 != 7) = false := by rw [bne_eq_false_iff_eq]; omega
      have g2 : ¬ (9223372036854775807 < (st (zs ++ List.replicate (7 - zs.length % 8) 0)).size + (st [(zs.length : Int) % 256]).size) := by rw [hsz, st_size]; have := HL.out; simp only [List.length_cons, List.length_nil]; omega
      have hS : Hid (st (zs ++ List.replicate (7 - zs.length % 8) 0) ++ st [(zs.length : Int) % 256] = st ((padded zs).drop 0)) := by
        rw [List.drop_zero]; unfold Hid padded; rw [← st_append, List.append_assoc]
      go_wp2_with fail
      rw [hS.out]
      have HK2 := hid (HK1.out.alloc (.cells #[.int .u8 ((zs.length : Int) % 256)] 5))
      have HB2 := hid (HB1.out.alloc (.cells #[.int .u8 ((zs.length : Int) % 256)] 5))
      obtain ⟨w2, hW⟩ : ∃ w2, w2 = w1.alloc (.cells #[.int .u8 ((zs.length : Int) % 256)] 5) := ⟨_, rfl⟩
      rw [← hW] at HB2 HK2 ⊢
      clear hW hc g1 g2 hS hsz hlt hk HK1 HB1 hst
      go_loopw [1] (MainR a b zs w) (fun s _ => strOf s)
      case atStart => exact ⟨0, by omega, rfl, HB2, HK2⟩
      case round =>
        clear HB2 HK2
        obtain ⟨j, hj, rfl, HB, HK⟩ := hrel
        obtain ⟨rem, hrem⟩ : ∃ rem, rem = (padded zs).drop (8 * j) := ⟨_, rfl⟩
        have hrl : rem.length = 8 * (zs.length / 8 + 1 - j) := by rw [hrem, List.length_drop, padded_length]; omega
        have hrb := hid (show IsBytes rem from by rw [hrem]; exact (padded_bytes HZ.out).drop _)
        have HREM := hid hrem
        have hsz : (st rem).size = rem.length := st_size rem
        have HRL := hid hrl
        rw [← hrem]
        clear hrem
        by_cases hlt : j < zs.length / 8 + 1
        · have g8 : 8 ≤ rem.length := by omega
          obtain ⟨ys, hys⟩ : ∃ ys, ys = rem.take 8 := ⟨_, rfl⟩
          have hyl : Hid (ys.length = 8) := by rw [hys]; unfold Hid; rw [List.length_take]; omega
          have hyb : Hid (IsBytes ys) := by rw [hys]; exact hrb.out.take 8
          have hg : Hid (∀ m, m < 8 → rem[m]?.getD 0 = ys[m]?.getD 0) := fun m hm => by rw [hys, List.getElem?_take_of_lt hm]
          have g0 : (0 : Int) < (rem.length : Int) := by omega
          have HG8 := hid g8
          clear g8 hrl
          go_wp2_with fail
          go_loop [7, 8] (WordR ys) (fun _ i => (intOf i + 1).toNat)
          case atStart => exact ⟨8, Nat.le_refl _, rfl, by rw [List.drop_of_length_le (by rw [hyl.out]; exact Nat.le_refl _)]; rfl⟩
          case round =>
            obtain ⟨k, hk, rfl, rfl⟩ := hrel
            by_cases hk0 : 0 < k
            · obtain ⟨m, rfl⟩ : ∃ m, k = m + 1 := ⟨k - 1, by omega⟩
              have hix := idx_any rem wr hrb.out m (by have := HG8.out; omega)
              rw [hg.out m (by omega)] at hix
              have hx := hyb.out m
              have HS := hid (num_step ys hyb.out hyl.out m (by omega))
              obtain ⟨X, hX⟩ : ∃ X, X = ys[m]?.getD 0 := ⟨_, rfl⟩
              rw [← hX] at hix hx HS
              obtain ⟨N, hN⟩ : ∃ N, N = num (ys.drop (m + 1)) := ⟨_, rfl⟩
              rw [← hN] at HS ⊢
              have HR := hid (show WordR ys (.int .u64 (IntKind.u64.wrap (IntKind.u64.wrap (N * 256) + X))) (.int .i64 ((m : Int) - 1)) from ⟨m, by omega, rfl, by rw [HS.out]⟩)
              clear hX hN HS
              go_wp2
              exact ⟨HR.out, by simp [intOf]⟩
            · obtain rfl : k = 0 := by omega
              rw [show List.drop 0 ys = ys from List.drop_zero]
              obtain ⟨V, hV⟩ : ∃ V, V = atWord a b zs j := ⟨_, rfl⟩
              obtain ⟨X, hX⟩ : ∃ X, X = num ys := ⟨_, rfl⟩
              have HV : Hid (V.word X = atWord a b zs (j + 1)) := by
                rw [hV, hX, hys, HREM.out]; exact word_step a b zs HZ.out j hlt
              rw [← hV] at HB
              rw [← hX]
              clear hV hX
              obtain ⟨va, vb, vc, vd⟩ := V
              have q0 : wr.cell? ⟨w.heap.size + 1, 0, none⟩ = some (.int .u64 va) := HB.out.cell 0
              have q1 : wr.cell? ⟨w.heap.size + 1, 1, none⟩ = some (.int .u64 vb) := HB.out.cell 1
              have q2 : wr.cell? ⟨w.heap.size + 1, 2, none⟩ = some (.int .u64 vc) := HB.out.cell 2
              have q3 : wr.cell? ⟨w.heap.size + 1, 3, none⟩ = some (.int .u64 vd) := HB.out.cell 3
              have f0 : wr.frozen? ⟨w.heap.size + 1, 0, none⟩ = false := HB.out.frozen 0
              have f1 : wr.frozen? ⟨w.heap.size + 1, 1, none⟩ = false := HB.out.frozen 1
              have f2 : wr.frozen? ⟨w.heap.size + 1, 2, none⟩ = false := HB.out.frozen 2
              have f3 : wr.frozen? ⟨w.heap.size + 1, 3, none⟩ = false := HB.out.frozen 3
              go_wp2_with fail
              have HB3 : Hid (Blk (wr.setCell ⟨w.heap.size + 1, 3, none⟩ (.int .u64 (bits .xor .u64 vd X))) (w.heap.size + 1) 104 (V4.cells ⟨va, vb, vc, bits .xor .u64 vd X⟩)) := Blk.set HB.out 3 (.int .u64 (bits .xor .u64 vd X))
              have HK3 : Hid (Kp Nb w (wr.setCell ⟨w.heap.size + 1, 3, none⟩ (.int .u64 (bits .xor .u64 vd X)))) := HK.out.new (Nat.le_succ _) 3 _
              obtain ⟨w3, hW⟩ : ∃ w3, w3 = wr.setCell ⟨w.heap.size + 1, 3, none⟩ (.int .u64 (bits .xor .u64 vd X)) := ⟨_, rfl⟩
              rw [← hW] at HB3 HK3 ⊢
              clear hW q0 q1 q2 q3 f0 f1 f2 f3 HB HK
              refine (ref_round ⟨va, vb, vc, bits .xor .u64 vd X⟩ _).mono ?_
              rintro e wa ⟨rfl, ka⟩
              have Ka := hid ka
              clear ka
              go_wp2_with fail
              refine (ref_round (rnd ⟨va, vb, vc, bits .xor .u64 vd X⟩) _).mono ?_
              rintro e wb ⟨rfl, kb⟩
              obtain ⟨U, hU⟩ : ∃ U, U = rnd (rnd ⟨va, vb, vc, bits .xor .u64 vd X⟩) := ⟨_, rfl⟩
              rw [← hU]
              have HU : Hid ({ U with a := bits .xor .u64 U.a X } = atWord a b zs (j + 1)) := by rw [← HV.out, hU]; rfl
              have HB4 := hid ((HB3.out.kept Ka.out (fun h => h)).kept kb (fun h => h))
              have HK4 := hid ((HK3.out.trans Ka.out (fun _ _ h => h)).trans kb (fun _ _ h => h))
              clear hU HV kb Ka HB3 HK3
              obtain ⟨ua, ub, uc, ud⟩ := U
              have y0 : wb.cell? ⟨w.heap.size + 1, 0, none⟩ = some (.int .u64 va) := HB4.out.cell 0
              have y1 : wb.cell? ⟨w.heap.size + 1, 1, none⟩ = some (.int .u64 vb) := HB4.out.cell 1
              have y2 : wb.cell? ⟨w.heap.size + 1, 2, none⟩ = some (.int .u64 vc) := HB4.out.cell 2
              have y3 : wb.cell? ⟨w.heap.size + 1, 3, none⟩ = some (.int .u64 (bits .xor .u64 vd X)) := HB4.out.cell 3
              have f0 : wb.frozen? ⟨w.heap.size + 1, 0, none⟩ = false := HB4.out.frozen 0
              have f1 : wb.frozen? ⟨w.heap.size + 1, 1, none⟩ = false := HB4.out.frozen 1
              have f2 : wb.frozen? ⟨w.heap.size + 1, 2, none⟩ = false := HB4.out.frozen 2
              have f3 : wb.frozen? ⟨w.heap.size + 1, 3, none⟩ = false := HB4.out.frozen 3
              have h8 : (8 : Int) ≤ (rem.length : Int) := by have := HG8.out; omega
              have HB5 := hid (((((HB4.out.set 0 (.int .u64 ua)).set 1 (.int .u64 ub)).set 2 (.int .u64 uc)).set 3 (.int .u64 ud)).set 0 (.int .u64 (bits .xor .u64 ua X)))
              have HK5 := hid (((((HK4.out.new (Nat.le_succ _) 0 (.int .u64 ua)).new (Nat.le_succ _) 1 (.int .u64 ub)).new (Nat.le_succ _) 2 (.int .u64 uc)).new (Nat.le_succ _) 3 (.int .u64 ud)).new (Nat.le_succ _) 0 (.int .u64 (bits .xor .u64 ua X)))
              have HR := hid (show MainR a b zs w (.string ((st rem).extract 8 rem.length)) (((((wb.setCell ⟨w.heap.size + 1, 0, none⟩ (.int .u64 ua)).setCell ⟨w.heap.size + 1, 1, none⟩ (.int .u64 ub)).setCell ⟨w.heap.size + 1, 2, none⟩ (.int .u64 uc)).setCell ⟨w.heap.size + 1, 3, none⟩ (.int .u64 ud)).setCell ⟨w.heap.size + 1, 0, none⟩ (.int .u64 (bits .xor .u64 ua X))) from
                ⟨j + 1, by omega, by rw [st_extract, HREM.out, List.drop_drop]; rfl, by rw [← HU.out]; exact HB5, HK5⟩)
              have HM := hid (show strOf (.string ((st rem).extract 8 rem.length)) < strOf (.string (st rem)) from by rw [st_extract]; simp only [strOf]; rw [st_size, st_size, List.length_drop]; have := HG8.out; omega)
              clear HB4 HK4 HB5 HK5 HU
              go_wp2
              refine ⟨?_, ?measure⟩
              iterate 32 (apply Exists.intro)
              refine ⟨?rel, rfl⟩
              case rel => exact HR.out
              case measure => exact HM.out
        · obtain rfl : j = zs.length / 8 + 1 := by omega
          obtain ⟨V, hV⟩ : ∃ V, V = atWord a b zs (zs.length / 8 + 1) := ⟨_, rfl⟩
          have HV := hid (hash_ref a b zs)
          rw [← hV] at HB HV
          clear hV
          obtain ⟨va, vb, vc, vd⟩ := V
          have g0 : rem.length = 0 := by omega
          have q0 : wr.cell? ⟨w.heap.size + 1, 0, none⟩ = some (.int .u64 va) := HB.out.cell 0
          have q1 : wr.cell? ⟨w.heap.size + 1, 1, none⟩ = some (.int .u64 vb) := HB.out.cell 1
          have q2 : wr.cell? ⟨w.heap.size + 1, 2, none⟩ = some (.int .u64 vc) := HB.out.cell 2
          have q3 : wr.cell? ⟨w.heap.size + 1, 3, none⟩ = some (.int .u64 vd) := HB.out.cell 3
          have f2 : wr.frozen? ⟨w.heap.size + 1, 2, none⟩ = false := HB.out.frozen 2
          have HB3 : Hid (Blk (wr.setCell ⟨w.heap.size + 1, 2, none⟩ (.int .u64 (bits .xor .u64 vc 255))) (w.heap.size + 1) 104 (V4.cells ⟨va, vb, bits .xor .u64 vc 255, vd⟩)) := Blk.set HB.out 2 (.int .u64 (bits .xor .u64 vc 255))
          have HK3 : Hid (Kp Nb w (wr.setCell ⟨w.heap.size + 1, 2, none⟩ (.int .u64 (bits .xor .u64 vc 255)))) := HK.out.new (Nat.le_succ _) 2 _
          clear HB HK hrl
          go_wp2_with fail
          refine (ref_round ⟨va, vb, bits .xor .u64 vc 255, vd⟩ _).mono ?_
          rintro e wa ⟨rfl, ka⟩
          have HB4 := hid (HB3.out.kept ka (fun h => h))
          have HK4 := hid (HK3.out.trans ka (fun _ _ h => h))
          clear ka HB3 HK3 q0 q1 q2 q3 f2
          go_wp2_with fail
          refine (ref_round (rnd ⟨va, vb, bits .xor .u64 vc 255, vd⟩) _).mono ?_
          rintro e wb ⟨rfl, ka⟩
          have HB5 := hid (HB4.out.kept ka (fun h => h))
          have HK5 := hid (HK4.out.trans ka (fun _ _ h => h))
          clear ka HB4 HK4
          go_wp2_with fail
          refine (ref_round (rnd (rnd ⟨va, vb, bits .xor .u64 vc 255, vd⟩)) _).mono ?_
          rintro e wc ⟨rfl, ka⟩
          have HB6 := hid (HB5.out.kept ka (fun h => h))
          have HK6 := hid (HK5.out.trans ka (fun _ _ h => h))
          clear ka HB5 HK5
          go_wp2_with fail
          refine (ref_round (rnd (rnd (rnd ⟨va, vb, bits .xor .u64 vc 255, vd⟩))) _).mono ?_
          rintro e wd ⟨rfl, ka⟩
          have HB7 := hid (HB6.out.kept ka (fun h => h))
          have HK7 := hid (HK6.out.trans ka (fun _ _ h => h))
          clear ka HB6 HK6
          obtain ⟨U, hU⟩ : ∃ U, U = rnd (rnd (rnd (rnd ⟨va, vb, bits .xor .u64 vc 255, vd⟩))) := ⟨_, rfl⟩
          rw [← hU]
          have HU : Hid (hash a b zs = U.out) := by rw [HV.out, hU]; rfl
          clear hU HV
          obtain ⟨ua, ub, uc, ud⟩ := U
          have y0 : wd.cell? ⟨w.heap.size + 1, 0, none⟩ = some (.int .u64 va) := HB7.out.cell 0
          have y1 : wd.cell? ⟨w.heap.size + 1, 1, none⟩ = some (.int .u64 vb) := HB7.out.cell 1
          have y2 : wd.cell? ⟨w.heap.size + 1, 2, none⟩ = some (.int .u64 (bits .xor .u64 vc 255)) := HB7.out.cell 2
          have y3 : wd.cell? ⟨w.heap.size + 1, 3, none⟩ = some (.int .u64 vd) := HB7.out.cell 3
          have f0 : wd.frozen? ⟨w.heap.size + 1, 0, none⟩ = false := HB7.out.frozen 0
          have f1 : wd.frozen? ⟨w.heap.size + 1, 1, none⟩ = false := HB7.out.frozen 1
          have f2 : wd.frozen? ⟨w.heap.size + 1, 2, none⟩ = false := HB7.out.frozen 2
          have f3 : wd.frozen? ⟨w.heap.size + 1, 3, none⟩ = false := HB7.out.frozen 3
          have HK8 := hid ((((HK7.out.new (Nat.le_succ _) 0 (.int .u64 ua)).new (Nat.le_succ _) 1 (.int .u64 ub)).new (Nat.le_succ _) 2 (.int .u64 uc)).new (Nat.le_succ _) 3 (.int .u64 ud))
          clear HK7 HB7
          go_wp2_with fail
          go_ret
          exact ⟨by rw [HU.out]; rfl, HK8.out⟩

end Go.Proofs.Yteedceepoindeaa
