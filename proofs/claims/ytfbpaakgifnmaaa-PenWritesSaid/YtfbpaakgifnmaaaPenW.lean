/-
  Layer 2: walks of the pen that is none, of great and of written. Conditions: what numbers of these types are; lists shorter than 2^62.
-/
import Derived.Test.YtfbpaakgifnmaaaRefN
import Derived.Test.YtfbpaakgifnmaaaLawOrder
namespace Go.Proofs.Ytfbpaakgifnmaaa
open Go.RowKit

set_option maxHeartbeats 400000 in
theorem nopen_number (u : Int) (w : World) : Calls Try.prog 30 #[.pointer none, .int .u64 u] w fun e w' => e = .returned (.tuple #[]) ∧ w = w' := by
  go_enter Try.func30, Try.ntmps30
  go_wp2
  refine bodyPost_ret (results_none rfl _ _ _) rfl ?_
  exact ⟨rfl, rfl⟩
set_option maxHeartbeats 400000 in
theorem nopen_fixed (v : Value) (w : World) : Calls Try.prog 32 #[.pointer none, v] w fun e w' => e = .returned (.tuple #[]) ∧ w = w' := by
  go_enter Try.func32, Try.ntmps32
  go_wp2
  go_end0
  exact ⟨rfl, rfl⟩
set_option maxHeartbeats 400000 in
theorem nopen_signed (n : Int) (w : World) : Calls Try.prog 33 #[.pointer none, .int .i64 n] w fun e w' => e = .returned (.tuple #[]) ∧ w = w' := by
  go_enter Try.func33, Try.ntmps33
  go_wp2_with fail
  refine (zig_any n _).mono ?_
  rintro e w1 ⟨rfl, rfl⟩
  go_wp2_with fail
  refine (nopen_number _ _).mono ?_
  rintro e w1 ⟨rfl, rfl⟩
  go_wp2
  go_end0
  exact ⟨rfl, rfl⟩
set_option maxHeartbeats 400000 in
theorem nopen_text (x : Option Addr) (n c : Nat) (w : World) : Calls Try.prog 31 #[.pointer none, .slice x n c] w fun e w' => e = .returned (.tuple #[]) ∧ w = w' := by
  go_enter Try.func31, Try.ntmps31
  go_wp2_with fail
  refine (nopen_number _ _).mono ?_
  rintro e w1 ⟨rfl, rfl⟩
  go_wp2_with fail
  refine (nopen_fixed _ _).mono ?_
  rintro e w1 ⟨rfl, rfl⟩
  go_wp2
  go_end0
  exact ⟨rfl, rfl⟩
set_option maxHeartbeats 400000 in
theorem nopen_bytes (w : World) : Calls Try.prog 29 #[.pointer none] w fun e w' => e = .returned (.slice none 0 0) ∧ w = w' := by
  go_enter Try.func29, Try.ntmps29
  go_wp2
  go_ret
  exact ⟨rfl, rfl⟩

abbrev Outs := List (Int × Int × Int × List Int)
def outAt (os : Outs) (i : Nat) : Int × Int × Int × List Int := os[i]?.getD (0, 0, 0, [])
def OutSl (w : World) (v : Value) (os : Outs) : Prop :=
  ((∃ a cap, v = .slice a 0 cap) ∧ os = []) ∨ ∃ blk off cap, v = .slice (some ⟨blk, off, none⟩) os.length cap ∧ os.length ≤ cap ∧ cap ≤ maxLen ∧
    ∀ i, i < os.length → w.cell? ⟨blk, off + i * 4, none⟩ = some (.int .i64 (outAt os i).1) ∧ w.cell? ⟨blk, off + i * 4 + 1, none⟩ = some (.int .i64 (outAt os i).2.1) ∧ w.cell? ⟨blk, off + i * 4 + 2, none⟩ = some (.int .u64 (outAt os i).2.2.1) ∧
      ∃ b, w.cell? ⟨blk, off + i * 4 + 3, none⟩ = some b ∧ BySl Nb w b (outAt os i).2.2.2
def OutOk (os : Outs) : Prop := ∀ i : Nat, (-9223372036854775808 ≤ (outAt os i).1 ∧ (outAt os i).1 < 9223372036854775808) ∧ (-9223372036854775808 ≤ (outAt os i).2.1 ∧ (outAt os i).2.1 < 9223372036854775808) ∧ (0 ≤ (outAt os i).2.2.1 ∧ (outAt os i).2.2.1 < 18446744073709551616) ∧ (outAt os i).2.2.2.length < 4611686018427387904
theorem OutSl.shape {w : World} {v : Value} {os : Outs} (h : OutSl w v os) : ∃ y d, v = .slice y os.length d := by
  rcases h with ⟨⟨a, c, rfl⟩, rfl⟩ | ⟨blk, off, cap, rfl, _⟩
  · exact ⟨a, c, rfl⟩
  · exact ⟨_, _, rfl⟩
theorem OutSl.kept {w w' : World} {v : Value} {os : Outs} (h : OutSl w v os) (k : Kp Nb w w') : OutSl w' v os := by
  rcases h with h | ⟨blk, off, cap, hv, hc, hm, hcell⟩
  · exact .inl h
  · refine .inr ⟨blk, off, cap, hv, hc, hm, fun i hi => ?_⟩
    obtain ⟨c0, c1, c2, b, c3, hb⟩ := hcell i hi
    exact ⟨k.cell c0 (fun h => h), k.cell c1 (fun h => h), k.cell c2 (fun h => h), b, k.cell c3 (fun h => h), hb.kept k (fun _ h => h)⟩

def outSum (os : Outs) : Nat → Nat
  | 0 => 0
  | k + 1 => outSum os k + (10 + (outAt os k).2.2.2.length)
theorem outSum_le (os : Outs) : ∀ j k, j ≤ k → outSum os j ≤ outSum os k
  | j, 0, h => by obtain rfl : j = 0 := by omega
                  exact Nat.le_refl _
  | j, k + 1, h => by
    by_cases e : j = k + 1
    · subst e; exact Nat.le_refl _
    · have := outSum_le os j k (by omega)
      show _ ≤ outSum os k + _
      omega
def Great2R (os : Outs) (w : World) (n i : Value) (wr : World) : Prop := ∃ k : Nat, k ≤ os.length ∧ i = .int .i64 k ∧ n = .int .i64 (outSum os k : Nat) ∧ Hid (outSum os k ≤ 4000) ∧ Hid (Kp Nb w wr)

set_option maxRecDepth 100000 in
set_option maxHeartbeats 1000000 in
theorem great2_any (v : Value) (os : Outs) (w : World) (h : OutSl w v os) (ho : OutOk os) :
    Calls Try.prog 27 #[v] w fun e w' => e = .returned (.bool (decide (4000 < outSum os os.length))) ∧ Kp Nb w w' := by
  obtain ⟨x, c, e⟩ := h.shape
  have H := hid h
  have HO := hid ho
  subst e
  clear h ho
  go_enter Try.func27, Try.ntmps27
  go_wp2
  go_loopw [3, 8] (Great2R os w) (fun _ i _ => os.length - (intOf i).toNat)
  case atStart => exact ⟨0, Nat.zero_le _, rfl, rfl, Nat.zero_le _, Kp.refl Nb w⟩
  case round =>
    obtain ⟨k, hk, rfl, rfl, hn, hkp⟩ := hrel
    by_cases hlt : k < os.length
    · rcases H.out with ⟨-, hnil⟩ | ⟨blk, off, cap, hv, hcap, hm, hcell⟩
      · subst hnil; simp at hlt
      · obtain ⟨q0, q1, q2, b, q3, hb⟩ := hcell k hlt
        obtain ⟨rfl, rfl⟩ : x = some ⟨blk, off, none⟩ ∧ c = cap := by simpa using hv
        obtain ⟨y, d, rfl⟩ := hb.shape
        have hlen := (HO.out k).2.2.2
        have p0 := hkp.out.cell q0 (fun h => h)
        have p1 := hkp.out.cell q1 (fun h => h)
        have p2 := hkp.out.cell q2 (fun h => h)
        have p3 := hkp.out.cell q3 (fun h => h)
        have hs : outSum os (k + 1) = outSum os k + (10 + (outAt os k).2.2.2.length) := rfl
        have hmono := outSum_le os (k + 1) os.length (by omega)
        have hn' := hn.out
        obtain ⟨S, hS⟩ : ∃ S, S = outSum os k := ⟨_, rfl⟩
        obtain ⟨L, hL⟩ : ∃ L, L = (outAt os k).2.2.2.length := ⟨_, rfl⟩
        obtain ⟨K, hK⟩ : ∃ K, K = (outAt os k).1 := ⟨_, rfl⟩
        obtain ⟨N, hN⟩ : ∃ N, N = (outAt os k).2.1 := ⟨_, rfl⟩
        obtain ⟨U, hU⟩ : ∃ U, U = (outAt os k).2.2.1 := ⟨_, rfl⟩
        rw [← hS, ← hL] at hs
        rw [← hS] at hn' ⊢
        rw [← hL] at hlen p3
        rw [← hK] at p0
        rw [← hN] at p1
        rw [← hU] at p2
        have HSS := hid hs
        have HMM := hid hmono
        clear hS hL hK hN hU hs hmono hcell hb hv q0 q1 q2 q3 hn
        have hj0 : (0 : Int) ≤ (k : Int) := by omega
        have hj1 : (k : Int) < (os.length : Int) := by omega
        have hj2 : (os.length : Int) ≤ 9223372036854775807 := by unfold maxLen at hm; omega
        by_cases h4 : 4000 < S + (10 + L)
        · have g : (4000 : Int) < (S : Int) + (10 + (L : Int)) := by omega
          have HD := hid (show decide (4000 < outSum os os.length) = true by simp only [decide_eq_true_eq]; have := HMM.out; have := HSS.out; omega)
          go_wp2
          go_ret
          exact ⟨by rw [HD.out]; rfl, hkp.out.alloc _⟩
        · have g : ¬ (4000 : Int) < (S : Int) + (10 + (L : Int)) := by omega
          have HR := hid (show Great2R os w (.int .i64 ((S : Int) + (10 + (L : Int)))) (.int .i64 ((k : Int) + 1)) (wr.alloc (.cells #[.int .i64 K, .int .i64 N, .int .u64 U, .slice y L d] 99)) from
            ⟨k + 1, by omega, by go_num, by rw [HSS.out]; congr 1, by unfold Hid; rw [HSS.out]; omega, hkp.out.alloc _⟩)
          clear hkp
          go_wp2
          first
            | exact ⟨HR.out, by simp [intOf]; omega⟩
            | (go_roundw
               case rel => exact HR.out
               case measure => simp [intOf]; omega)
    · obtain rfl : k = os.length := by omega
      have HD := hid (show decide (4000 < outSum os os.length) = false by simp only [decide_eq_false_iff_not]; have := hn.out; omega)
      go_wp2
      go_ret
      exact ⟨by rw [HD.out]; rfl, hkp.out⟩

def kindOf (K : Int) : Int := IntKind.u64.wrap K % 4
def outBytes (o : Int × Int × Int × List Int) : List Int :=
  if kindOf o.1 = 0 then numBytes o.2.2.1 else if kindOf o.1 = 1 then numBytes (zigI o.2.1) else if kindOf o.1 = 2 then numBytes o.2.2.2.length ++ o.2.2.2 else o.2.2.2
def outAll (os : Outs) : Nat → List Int
  | 0 => []
  | k + 1 => outAll os k ++ outBytes (outAt os k)
theorem zig_range (n : Int) : 0 ≤ zigI n ∧ zigI n < 18446744073709551616 := by
  unfold zigI bits
  show 0 ≤ IntKind.u64.wrap _ ∧ IntKind.u64.wrap _ < _
  rw [IntKind.wrap_u64]
  omega
theorem outBytes_length (os : Outs) (ho : OutOk os) (k : Nat) : (outBytes (outAt os k)).length ≤ 10 + (outAt os k).2.2.2.length := by
  have h := ho k
  have a1 := numBytes_length (outAt os k).2.2.1 h.2.2.1.2
  have a2 := numBytes_length (zigI (outAt os k).2.1) (zig_range _).2
  have a3 := numBytes_length ((outAt os k).2.2.2.length : Int) (by have := h.2.2.2; omega)
  unfold outBytes
  split
  · omega
  · split
    · omega
    · split
      · rw [List.length_append]; omega
      · omega
theorem outAll_length (os : Outs) (ho : OutOk os) : ∀ k, (outAll os k).length ≤ outSum os k
  | 0 => Nat.le_refl _
  | k + 1 => by
    have := outAll_length os ho k
    have := outBytes_length os ho k
    show (outAll os k ++ outBytes (outAt os k)).length ≤ outSum os k + _
    rw [List.length_append]
    omega

def WritR (os : Outs) (w w1 : World) (B : Nat) (s i : Value) (wr : World) : Prop :=
  ∃ (k : Nat) (v : Value), k ≤ os.length ∧ i = .int .i64 k ∧ s = .string (st (outAll os k)) ∧ Hid (PenAt wr B v (outAll os k)) ∧ Hid (PenTo w1 wr B (.slice none 0 0) v) ∧ Hid (Kp Nb w wr)

set_option maxRecDepth 100000 in
set_option maxHeartbeats 4000000 in
theorem written_any (v : Value) (os : Outs) (w : World) (h : OutSl w v os) (ho : OutOk os) (hsum : outSum os os.length ≤ 4000) :
    Calls Try.prog 28 #[v] w fun e w' => ∃ B vp, w.heap.size ≤ B ∧ e = .returned (.tuple #[.pointer (some ⟨B, 0, none⟩), .string (st (outAll os os.length))]) ∧ PenAt w' B vp (outAll os os.length) ∧ Kp Nb w w' := by
  obtain ⟨x, c, e⟩ := h.shape
  have H := hid h
  have HO := hid ho
  have HSUM := hid hsum
  subst e
  clear h ho hsum
  have HP0 := hid (PenAt.new w)
  have HK0 := hid ((Kp.refl Nb w).alloc (.cells #[.slice none 0 0] 89))
  go_enter Try.func28, Try.ntmps28
  go_wp2
  obtain ⟨w1, hW⟩ : ∃ w1, w1 = w.alloc (.cells #[.slice none 0 0] 89) := ⟨_, rfl⟩
  obtain ⟨B, hB⟩ : ∃ B, B = w.heap.size := ⟨_, rfl⟩
  rw [← hW] at HP0 HK0 ⊢
  rw [← hB] at HP0 ⊢
  have HB := hid hB
  clear hW hB
  go_loopw [5, 12] (WritR os w w1 B) (fun _ i _ => os.length - (intOf i).toNat)
  case atStart => exact ⟨0, _, Nat.zero_le _, rfl, rfl, HP0, PenTo.refl _ _ _, HK0⟩
  case round =>
    clear HP0
    obtain ⟨k, vp, hk, rfl, rfl, hp, ht, hkp⟩ := hrel
    by_cases hlt : k < os.length
    · rcases H.out with ⟨-, hnil⟩ | ⟨blk, off, cap, hv, hcap, hm, hcell⟩
      · subst hnil; simp at hlt
      · obtain ⟨q0, q1, q2, b, q3, hb⟩ := hcell k hlt
        obtain ⟨rfl, rfl⟩ : x = some ⟨blk, off, none⟩ ∧ c = cap := by simpa using hv
        obtain ⟨y, d, rfl⟩ := hb.shape
        have hok := HO.out k
        have p0 := hkp.out.cell q0 (fun h => h)
        have p1 := hkp.out.cell q1 (fun h => h)
        have p2 := hkp.out.cell q2 (fun h => h)
        have p3 := hkp.out.cell q3 (fun h => h)
        have hl1 := outAll_length os HO.out (k + 1)
        have hl0 := outAll_length os HO.out k
        have hmono := outSum_le os (k + 1) os.length (by omega)
        have hs : outSum os (k + 1) = outSum os k + (10 + (outAt os k).2.2.2.length) := rfl
        have hnext : outAll os (k + 1) = outAll os k ++ outBytes (outAt os k) := rfl
        have HBY := hid hb
        have hj0 : (0 : Int) ≤ (k : Int) := by omega
        have hj1 : (k : Int) < (os.length : Int) := by omega
        have hj2 : (os.length : Int) ≤ 9223372036854775807 := by unfold maxLen at hm; omega
        have hsum := HSUM.out
        obtain ⟨⟨K, N, U, ys⟩, ho⟩ : ∃ o, o = outAt os k := ⟨_, rfl⟩
        rw [← ho] at p0 p1 p2 p3 hok hs hnext HBY
        simp only at p0 p1 p2 p3 hok hs HBY
        have HNX := hid hnext
        have HLN : Hid ((outAll os k).length + ys.length + 10 ≤ 4000) := by unfold Hid; omega
        have HOK := hid hok
        have HL1 : Hid ((outAll os (k + 1)).length ≤ 4000) := by unfold Hid; omega
        clear ho hl1 hl0 hmono hs hnext hsum hcell hb hv q0 q1 q2 q3 hok
        have HPA := hid (hp.out.kept ((Kp.refl Nb wr).alloc (.cells #[.int .i64 K, .int .i64 N, .int .u64 U, .slice y ys.length d] 99)) (fun h => h) (fun _ _ h => h))
        have HTA := hid (ht.out.keep ((Kp.refl Nb wr).alloc (.cells #[.int .i64 K, .int .i64 N, .int .u64 U, .slice y ys.length d] 99)))
        have HKA := hid (hkp.out.alloc (.cells #[.int .i64 K, .int .i64 N, .int .u64 U, .slice y ys.length d] 99))
        have HBX := hid (Blk.new wr 99 [.int .i64 K, .int .i64 N, .int .u64 U, .slice y ys.length d])
        have HNB : Hid (¬ Pb B vp wr.heap.size) := fun h => by
          rcases h with h | h
          · have := hp.out.lt; omega
          · have := (hp.out.own.lt _ h).2; omega
        have HBP : Hid (∀ i, i < w.heap.size → ¬ Pb B vp i) := fun i hi h => by
          rcases h with h | h
          · have := HB.out; omega
          · have := ht.out.own_ge rfl i h; have := HK0.out.size; omega
        obtain ⟨wA, hWA⟩ : ∃ wA, wA = wr.alloc (.cells #[.int .i64 K, .int .i64 N, .int .u64 U, .slice y ys.length d] 99) := ⟨_, rfl⟩
        obtain ⟨Bx, hBx⟩ : ∃ Bx, Bx = wr.heap.size := ⟨_, rfl⟩
        have HBX : Hid (Blk wA Bx 99 [.int .i64 K, .int .i64 N, .int .u64 U, .slice y ys.length d]) := by rw [hWA, hBx]; exact HBX
        rw [← hWA] at HPA HTA HKA
        rw [← hBx] at HNB
        have HWA := hid hWA
        have HBX2 := hid hBx
        have b0 : wA.cell? ⟨Bx, 0, none⟩ = some (.int .i64 K) := HBX.out.cell 0
        have b1 : wA.cell? ⟨Bx, 1, none⟩ = some (.int .i64 N) := HBX.out.cell 1
        have b2 : wA.cell? ⟨Bx, 2, none⟩ = some (.int .u64 U) := HBX.out.cell 2
        have b3 : wA.cell? ⟨Bx, 3, none⟩ = some (.slice y ys.length d) := HBX.out.cell 3
        clear hWA hBx hp ht hkp
        obtain ⟨C, hC⟩ : ∃ C, C = kindOf K := ⟨_, rfl⟩
        have hc0 : 0 ≤ C ∧ C < 4 := by rw [hC]; unfold kindOf; omega
        have hkk : (IntKind.u64.wrap K).tmod 4 = C := by rw [hC]; unfold kindOf; exact Int.tmod_eq_emod_of_nonneg (by rw [IntKind.wrap_u64]; omega)
        have HC := hid hC
        clear hC
        obtain ⟨S0, hS0⟩ : ∃ S, S = st (outAll os k) := ⟨_, rfl⟩
        have hz0 : S0.size ≤ 4000 := by rw [hS0, st_size]; have := HLN.out; omega
        have HS0 := hid hS0
        rw [← hS0]
        clear hS0
        go_upto_region 5 with fail
        rw [← HWA.out, ← HBX2.out]
        clear p0 p1 p2 p3
        rcases (show C = 0 ∨ C = 1 ∨ C = 2 ∨ C = 3 by omega) with hc | hc | hc | hc
        · subst hc
          have hob : outBytes (K, N, U, ys) = numBytes U := by
            have hk : kindOf K = 0 := HC.out.symm
            unfold outBytes
            simp only [hk]
            first | rfl | simp
          have HOB := hid hob
          clear hob
          go_wp2_with fail
          refine (pen_number B vp _ U _ HPA.out HOK.out.2.2.1.1 HOK.out.2.2.1.2 (by have := HLN.out; omega)).mono ?_
          rintro e wC ⟨rfl, vn, hpn, htn⟩
          have HPN : Hid (PenAt wC B vn (outAll os (k + 1))) := by rw [HNX.out, HOB.out]; exact hpn
          have HTN := hid (HTA.out.trans htn)
          have HKN := hid (HKA.out.trans htn.kp (fun i hi h => HBP.out i hi h))
          have HBN := hid (HBX.out.kept htn.kp HNB.out)
          have d1 : wC.cell? ⟨Bx, 1, none⟩ = some (.int .i64 N) := HBN.out.cell 1
          have d2 : wC.cell? ⟨Bx, 2, none⟩ = some (.int .u64 U) := HBN.out.cell 2
          have d3 : wC.cell? ⟨Bx, 3, none⟩ = some (.slice y ys.length d) := HBN.out.cell 3
          clear hpn htn b0 b1 b2 b3 HPA HTA HBX
          go_wp2_with fail
          refine (refn_number U _ HOK.out.2.2.1.1 HOK.out.2.2.1.2).mono ?_
          rintro e wD ⟨rfl, kd⟩
          obtain ⟨S1, hS1⟩ : ∃ S, S = st (numBytes U) := ⟨_, rfl⟩
          have hz1 : S1.size ≤ 4000 := by rw [hS1, st_size, ← HOB.out]; have := HL1.out; rw [HNX.out, List.length_append] at this; omega
          have HCT : Hid (S0 ++ S1 = st (outAll os (k + 1))) := by rw [HS0.out, hS1, HNX.out, HOB.out]; unfold Hid; exact (st_append _ _).symm
          rw [← hS1]
          clear hS1
          have g2 : ¬ (9223372036854775807 < S0.size + S1.size) := by omega
          have HR := hid (show WritR os w w1 B (.string (S0 ++ S1)) (.int .i64 ((k : Int) + 1)) wD from ⟨k + 1, vn, by omega, by go_num, by rw [HCT.out], HPN.out.kept kd (fun h => h) (fun _ _ h => h), HTN.out.keep kd, HKN.out.trans kd (fun _ _ h => h)⟩)
          clear kd HPN HTN HKN HBN HCT
          go_wp2
          first
            | exact ⟨HR.out, by simp [intOf]; omega⟩
            | (go_roundw
               case rel => exact HR.out
               case measure => simp [intOf]; omega)
            | (refine ⟨?_, ?measure⟩
               iterate 60 (first | apply Exists.intro | skip)
               refine ⟨?rel, rfl⟩
               case rel => exact HR.out
               case measure => simp [intOf]; omega)
        · subst hc
          have hob : outBytes (K, N, U, ys) = numBytes (zigI N) := by
            have hk : kindOf K = 1 := HC.out.symm
            unfold outBytes
            simp only [hk]
            first | rfl | simp
          have HOB := hid hob
          clear hob
          go_wp2_with fail
          refine (pen_signed B vp _ N _ HPA.out (by have := HLN.out; omega)).mono ?_
          rintro e wC ⟨rfl, vn, hpn, htn⟩
          have HPN : Hid (PenAt wC B vn (outAll os (k + 1))) := by rw [HNX.out, HOB.out]; exact hpn
          have HTN := hid (HTA.out.trans htn)
          have HKN := hid (HKA.out.trans htn.kp (fun i hi h => HBP.out i hi h))
          have HBN := hid (HBX.out.kept htn.kp HNB.out)
          have d1 : wC.cell? ⟨Bx, 1, none⟩ = some (.int .i64 N) := HBN.out.cell 1
          have d2 : wC.cell? ⟨Bx, 2, none⟩ = some (.int .u64 U) := HBN.out.cell 2
          have d3 : wC.cell? ⟨Bx, 3, none⟩ = some (.slice y ys.length d) := HBN.out.cell 3
          clear hpn htn b0 b1 b2 b3 HPA HTA HBX
          go_wp2_with fail
          refine (refn_zig N _ HOK.out.2.1.1 HOK.out.2.1.2).mono ?_
          rintro e wD0 ⟨rfl, rfl⟩
          go_wp2_with fail
          refine (refn_number (zigI N) _ (zig_range N).1 (zig_range N).2).mono ?_
          rintro e wD ⟨rfl, kd⟩
          obtain ⟨S1, hS1⟩ : ∃ S, S = st (numBytes (zigI N)) := ⟨_, rfl⟩
          have hz1 : S1.size ≤ 4000 := by rw [hS1, st_size, ← HOB.out]; have := HL1.out; rw [HNX.out, List.length_append] at this; omega
          have HCT : Hid (S0 ++ S1 = st (outAll os (k + 1))) := by rw [HS0.out, hS1, HNX.out, HOB.out]; unfold Hid; exact (st_append _ _).symm
          rw [← hS1]
          clear hS1
          have g2 : ¬ (9223372036854775807 < S0.size + S1.size) := by omega
          have HR := hid (show WritR os w w1 B (.string (S0 ++ S1)) (.int .i64 ((k : Int) + 1)) wD from ⟨k + 1, vn, by omega, by go_num, by rw [HCT.out], HPN.out.kept kd (fun h => h) (fun _ _ h => h), HTN.out.keep kd, HKN.out.trans kd (fun _ _ h => h)⟩)
          clear kd HPN HTN HKN HBN HCT
          go_wp2
          first
            | exact ⟨HR.out, by simp [intOf]; omega⟩
            | (go_roundw
               case rel => exact HR.out
               case measure => simp [intOf]; omega)
            | (refine ⟨?_, ?measure⟩
               iterate 60 (first | apply Exists.intro | skip)
               refine ⟨?rel, rfl⟩
               case rel => exact HR.out
               case measure => simp [intOf]; omega)
        · subst hc
          have hob : outBytes (K, N, U, ys) = (numBytes (ys.length : Int) ++ ys) := by
            have hk : kindOf K = 2 := HC.out.symm
            unfold outBytes
            simp only [hk]
            first | rfl | simp
          have HOB := hid hob
          clear hob
          go_wp2_with fail
          have HBU := hid (by_far (S' := Pb B vp) HBY.out HKA.out (fun _ _ h => h) HBP.out)
          refine (pen_text B vp _ _ ys _ HPA.out HBU.out (by have := HLN.out; omega)).mono ?_
          rintro e wC ⟨rfl, vn, hpn, htn⟩
          have HPN : Hid (PenAt wC B vn (outAll os (k + 1))) := by rw [HNX.out, HOB.out]; exact (by have h := hpn; rw [List.append_assoc] at h; exact h)
          have HTN := hid (HTA.out.trans htn)
          have HKN := hid (HKA.out.trans htn.kp (fun i hi h => HBP.out i hi h))
          have HBN := hid (HBX.out.kept htn.kp HNB.out)
          have d1 : wC.cell? ⟨Bx, 1, none⟩ = some (.int .i64 N) := HBN.out.cell 1
          have d2 : wC.cell? ⟨Bx, 2, none⟩ = some (.int .u64 U) := HBN.out.cell 2
          have d3 : wC.cell? ⟨Bx, 3, none⟩ = some (.slice y ys.length d) := HBN.out.cell 3
          have hcv := conv_any (by_far (S' := Nb) HBY.out HKN.out (fun _ _ h => h) (fun _ _ h => h))
          clear hpn htn b0 b1 b2 b3 HPA HTA HBX
          obtain ⟨SY, hSY⟩ : ∃ S, S = st ys := ⟨_, rfl⟩
          rw [← hSY] at hcv
          have HSY := hid hSY
          clear hSY
          go_wp2_with fail
          rw [HSY.out]
          refine (refn_text ys _ (by have := HLN.out; omega)).mono ?_
          rintro e wD ⟨rfl, kd⟩
          obtain ⟨S1, hS1⟩ : ∃ S, S = st ((numBytes (ys.length : Int) ++ ys)) := ⟨_, rfl⟩
          have hz1 : S1.size ≤ 4000 := by rw [hS1, st_size, ← HOB.out]; have := HL1.out; rw [HNX.out, List.length_append] at this; omega
          have HCT : Hid (S0 ++ S1 = st (outAll os (k + 1))) := by rw [HS0.out, hS1, HNX.out, HOB.out]; unfold Hid; exact (st_append _ _).symm
          rw [← hS1]
          clear hS1
          have g2 : ¬ (9223372036854775807 < S0.size + S1.size) := by omega
          have HR := hid (show WritR os w w1 B (.string (S0 ++ S1)) (.int .i64 ((k : Int) + 1)) wD from ⟨k + 1, vn, by omega, by go_num, by rw [HCT.out], HPN.out.kept kd (fun h => h) (fun _ _ h => h), HTN.out.keep kd, HKN.out.trans kd (fun _ _ h => h)⟩)
          clear kd HPN HTN HKN HBN HCT
          go_wp2
          first
            | exact ⟨HR.out, by simp [intOf]; omega⟩
            | (go_roundw
               case rel => exact HR.out
               case measure => simp [intOf]; omega)
            | (refine ⟨?_, ?measure⟩
               iterate 60 (first | apply Exists.intro | skip)
               refine ⟨?rel, rfl⟩
               case rel => exact HR.out
               case measure => simp [intOf]; omega)
        · subst hc
          have hob : outBytes (K, N, U, ys) = ys := by
            have hk : kindOf K = 3 := HC.out.symm
            unfold outBytes
            simp only [hk]
            first | rfl | simp
          have HOB := hid hob
          clear hob
          go_wp2_with fail
          have HBU := hid (by_far (S' := Nb) HBY.out HKA.out (fun _ _ h => h) (fun _ _ h => h))
          refine (pen_fixed B vp _ _ ys _ HPA.out HBU.out (by have := HLN.out; omega)).mono ?_
          rintro e wC ⟨rfl, vn, hpn, htn⟩
          have HPN : Hid (PenAt wC B vn (outAll os (k + 1))) := by rw [HNX.out, HOB.out]; exact hpn
          have HTN := hid (HTA.out.trans htn)
          have HKN := hid (HKA.out.trans htn.kp (fun i hi h => HBP.out i hi h))
          have HBN := hid (HBX.out.kept htn.kp HNB.out)
          have d1 : wC.cell? ⟨Bx, 1, none⟩ = some (.int .i64 N) := HBN.out.cell 1
          have d2 : wC.cell? ⟨Bx, 2, none⟩ = some (.int .u64 U) := HBN.out.cell 2
          have d3 : wC.cell? ⟨Bx, 3, none⟩ = some (.slice y ys.length d) := HBN.out.cell 3
          have hcv := conv_any (by_far (S' := Nb) HBY.out HKN.out (fun _ _ h => h) (fun _ _ h => h))
          clear hpn htn b0 b1 b2 b3 HPA HTA HBX
          have kd : Kp Nb wC wC := Kp.refl Nb wC
          obtain ⟨S1, hS1⟩ : ∃ S, S = st (ys) := ⟨_, rfl⟩
          have hz1 : S1.size ≤ 4000 := by rw [hS1, st_size, ← HOB.out]; have := HL1.out; rw [HNX.out, List.length_append] at this; omega
          have HCT : Hid (S0 ++ S1 = st (outAll os (k + 1))) := by rw [HS0.out, hS1, HNX.out, HOB.out]; unfold Hid; exact (st_append _ _).symm
          rw [← hS1] at hcv
          clear hS1
          have g2 : ¬ (9223372036854775807 < S0.size + S1.size) := by omega
          have HR := hid (show WritR os w w1 B (.string (S0 ++ S1)) (.int .i64 ((k : Int) + 1)) wC from ⟨k + 1, vn, by omega, by go_num, by rw [HCT.out], HPN.out.kept kd (fun h => h) (fun _ _ h => h), HTN.out.keep kd, HKN.out.trans kd (fun _ _ h => h)⟩)
          clear kd HPN HTN HKN HBN HCT
          go_wp2
          first
            | exact ⟨HR.out, by simp [intOf]; omega⟩
            | (go_roundw
               case rel => exact HR.out
               case measure => simp [intOf]; omega)
            | (refine ⟨?_, ?measure⟩
               iterate 60 (first | apply Exists.intro | skip)
               refine ⟨?rel, rfl⟩
               case rel => exact HR.out
               case measure => simp [intOf]; omega)
    · obtain rfl : k = os.length := by omega
      go_wp2
      go_ret2
      exact ⟨B, vp, by have := HB.out; omega, rfl, hp.out, hkp.out⟩

end Go.Proofs.Ytfbpaakgifnmaaa
