/-
  Layer 2: walks of the eye: first, Read, Number, Signed, take, Fixed, Text. Conditions: fewer than 2^47 bytes.
-/
import Derived.Test.YtbbfibgijackhaaGreatDoorPenA
import Derived.Test.YtbbfibgijackhaaGreatDoorRefP
namespace Go.Proofs.YtbbfibgijackhaaGreatDoor
open Go.RowKit

def beTo (zs : List Int) : Nat → Int
  | 0 => 0
  | k + 1 => bits .or .u64 (IntKind.u64.wrap (beTo zs k * 256)) (zs[k]?.getD 0)
theorem bits_or_range (a b : Int) : 0 ≤ bits .or .u64 a b ∧ bits .or .u64 a b < 18446744073709551616 := by
  unfold bits
  show 0 ≤ IntKind.u64.wrap _ ∧ IntKind.u64.wrap _ < _
  rw [IntKind.wrap_u64]
  omega
theorem beTo_range (zs : List Int) : ∀ k, 0 ≤ beTo zs k ∧ beTo zs k < 18446744073709551616
  | 0 => ⟨Int.le_refl _, by show (0 : Int) < _; decide⟩
  | k + 1 => bits_or_range _ _

/-- The first number in bytes, how many bytes it takes, an error. -/
def firstOf (zs : List Int) : Int × Nat × Int :=
  if zs.length = 0 then (0, 0, 10)
  else if zs[0]?.getD 0 ≤ 247 then (zs[0]?.getD 0, 1, 0)
  else if zs.length < 1 + (zs[0]?.getD 0 - 247).toNat then (0, 0, 10)
  else if sizeN (beTo (zs.drop 1) (zs[0]?.getD 0 - 247).toNat) = 1 + (zs[0]?.getD 0 - 247).toNat then (beTo (zs.drop 1) (zs[0]?.getD 0 - 247).toNat, 1 + (zs[0]?.getD 0 - 247).toNat, 0)
  else (0, 0, 11)

def FirstR (zs : List Int) (n : Nat) (u i : Value) : Prop := ∃ j : Nat, j ≤ n ∧ i = .int .i64 j ∧ u = .int .u64 (beTo zs j)
def firstVal (zs : List Int) : Value := .tuple #[.int .u64 (firstOf zs).1, .int .i64 (firstOf zs).2.1, .int .i64 (firstOf zs).2.2]

set_option maxHeartbeats 400000 in
theorem firstb_nil (a : Option Addr) (cap : Nat) (w : World) :
    Calls Tryz.prog 63 #[.slice a 0 cap] w fun e w' => e = .returned (firstVal []) ∧ w = w' := by
  go_enter Tryz.func63, Tryz.ntmps63
  go_wp2
  go_ret3
  exact ⟨rfl, rfl⟩

set_option maxRecDepth 100000 in
set_option maxHeartbeats 1000000 in
theorem firstb_some (blk off cap : Nat) (zs : List Int) (w : World) (h0 : 0 < zs.length) (hz : IsBytes zs) (hc : zs.length ≤ cap) (hb : ByAt w blk off zs) :
    Calls Tryz.prog 63 #[.slice (some ⟨blk, off, none⟩) zs.length cap] w fun e w' => e = .returned (firstVal zs) ∧ w = w' := by
  have c0 := hb 0 h0
  rw [Nat.add_zero] at c0
  have hx := hz 0
  have HB := hid hb
  have HZ := hid hz
  obtain ⟨F, hF⟩ : ∃ F, F = firstVal zs := ⟨_, rfl⟩
  rw [← hF]
  have HV := hid hF
  clear hF
  unfold firstVal firstOf at HV
  clear hb hz
  obtain ⟨z, hzz⟩ : ∃ z, z = zs[0]?.getD 0 := ⟨_, rfl⟩
  rw [← hzz] at c0 hx HV
  clear hzz
  by_cases hle : z ≤ 247
  · have HV2 := HV.out
    rw [if_neg (show ¬ zs.length = 0 by omega), if_pos hle] at HV2
    have HV := hid HV2
    clear HV2
    have g0 : ¬ (zs.length : Int) = 0 := by omega
    go_enter Tryz.func63, Tryz.ntmps63
    go_wp2
    go_ret3
    exact ⟨by rw [HV.out]; rfl, rfl⟩
  · obtain ⟨k, hk⟩ : ∃ k : Nat, z = 247 + (k : Int) := ⟨(z - 247).toNat, by omega⟩
    subst hk
    have ek : (247 + (k : Int) - 247).toNat = k := by omega
    rw [ek] at HV
    have g0 : ¬ (zs.length : Int) = 0 := by omega
    by_cases hlt : zs.length < 1 + k
    · have HV2 := HV.out
      rw [if_neg (show ¬ zs.length = 0 by omega), if_neg hle, if_pos hlt] at HV2
      have HV := hid HV2
      clear HV2
      go_enter Tryz.func63, Tryz.ntmps63
      go_wp2
      go_ret3
      exact ⟨by rw [HV.out]; rfl, rfl⟩
    · have HV2 := HV.out
      rw [if_neg (show ¬ zs.length = 0 by omega), if_neg hle, if_neg hlt] at HV2
      have HV := hid HV2
      clear HV2
      have g1 : ¬ cap = 1 := by omega
      have g2 : (1 : Int) + (k : Int) ≤ (cap : Int) := by omega
      have g3 : (1 : Int) ≤ 1 + (k : Int) := by omega
      obtain ⟨ys, hys⟩ : ∃ ys, ys = zs.drop 1 := ⟨_, rfl⟩
      rw [← hys] at HV
      have HYS := hid hys
      clear hys
      go_enter Tryz.func63, Tryz.ntmps63
      go_wp2
      go_loop [6, 34] (FirstR ys k) (fun _ i => k - (intOf i).toNat)
      case atStart => exact ⟨0, Nat.zero_le _, rfl, rfl⟩
      case round =>
        obtain ⟨j, hj, rfl, rfl⟩ := hrel
        by_cases hjk : j < k
        · have cj := HB.out (1 + j) (by omega)
          have hxj := HZ.out (1 + j)
          rw [← Nat.add_assoc] at cj
          have hd : ys[j]?.getD 0 = zs[1 + j]?.getD 0 := by rw [HYS.out, List.getElem?_drop]
          obtain ⟨X, hX⟩ : ∃ X, X = zs[1 + j]?.getD 0 := ⟨_, rfl⟩
          rw [← hX] at cj hxj hd
          clear hX
          have hbr := beTo_range ys j
          have HR := hid (show FirstR ys k (.int .u64 (bits .or .u64 (IntKind.u64.wrap (beTo ys j * 256)) X)) (.int .i64 ((j : Int) + 1)) from ⟨j + 1, by omega, by go_num, by rw [← hd]; rfl⟩)
          clear hd
          go_wp2
          exact ⟨HR.out, by simp [intOf]; omega⟩
        · obtain rfl : j = k := by omega
          have hbr := beTo_range ys j
          go_wp2_with fail
          refine (psize_any _ _ hbr.1 hbr.2).mono ?_
          rintro e w1 ⟨rfl, rfl⟩
          by_cases hs : sizeN (beTo ys j) = 1 + j
          · have HV2 := HV.out
            rw [if_pos hs] at HV2
            have HV := hid HV2
            clear HV2
            have g5 : (((sizeN (beTo ys j) : Nat) : Int) != 1 + (247 + (j : Int) - 247)) = false := by rw [bne_eq_false_iff_eq]; omega
            go_wp2
            go_ret3
            have e1 : (1 : Int) + (247 + (j : Int) - 247) = ((1 + j : Nat) : Int) := by omega
            exact ⟨by rw [HV.out, ← e1]; rfl, rfl⟩
          · have HV2 := HV.out
            rw [if_neg hs] at HV2
            have HV := hid HV2
            clear HV2
            have g5 : (((sizeN (beTo ys j) : Nat) : Int) != 1 + (247 + (j : Int) - 247)) = true := by rw [bne_iff_ne]; omega
            go_wp2
            go_ret3
            exact ⟨by rw [HV.out]; rfl, rfl⟩

theorem firstb_any {S : Nat → Prop} (v : Value) (zs : List Int) (w : World) (h : BySl S w v zs) :
    Calls Tryz.prog 63 #[v] w fun e w' => e = .returned (firstVal zs) ∧ w = w' := by
  obtain ⟨hz, ⟨⟨a, c, rfl⟩, rfl⟩ | ⟨blk, off, cap, rfl, hc, hm, hb, -⟩⟩ := h
  · exact firstb_nil a c w
  · by_cases h0 : zs.length = 0
    · obtain rfl := List.eq_nil_of_length_eq_zero h0
      exact firstb_nil _ _ w
    · exact firstb_some blk off cap zs w (by omega) hz hc hb

theorem firstOf_ok (zs : List Int) (h : (firstOf zs).2.2 = 0) : 1 ≤ (firstOf zs).2.1 ∧ (firstOf zs).2.1 ≤ zs.length := by
  unfold firstOf at h ⊢
  split at h
  · simp at h
  · rename_i h0
    rw [if_neg h0]
    split at h
    · rename_i h1
      rw [if_pos h1]
      exact ⟨Nat.le_refl _, by show 1 ≤ zs.length; omega⟩
    · rename_i h1
      rw [if_neg h1]
      split at h
      · simp at h
      · rename_i h2
        rw [if_neg h2]
        split at h
        · rename_i h3
          rw [if_pos h3]
          refine ⟨by show 1 ≤ 1 + _; omega, by show 1 + _ ≤ zs.length; omega⟩
        · simp at h

theorem elem_bytes : Tryz.prog.underlying 40 = some (.slice (Tryz.prog.elem 40)) := by
  rw [show Tryz.prog.elem 40 = 5 from by simp [Program.elem, Tryz.underlying40]]; exact Tryz.underlying40
theorem elem_is : Tryz.prog.elem 40 = 5 := by simp [Program.elem, Tryz.underlying40]
theorem size_byte (w : World) : (sizeOf 5).run Tryz.prog w = .ok 1 w := by
  obtain ⟨i0, hi, _, hz1, _⟩ := info_parts info_byte
  simp [Go.sizeOf, typeInfo, hi, hz1]

/-- v[n:] of bytes. -/
theorem BySl.cutL {S : Nat → Prop} {w : World} {v : Value} {zs : List Int} (h : BySl S w v zs) (n : Nat) (hn : n ≤ zs.length) :
    ∃ x c, (∀ W, (Instr.slice 40 v (some (.int .i64 (n : Int))) none none).run Tryz.prog W = .ok (.slice x (zs.length - n) c) W) ∧ BySl S w (.slice x (zs.length - n) c) (zs.drop n) := by
  obtain ⟨hz, ⟨⟨a, c, rfl⟩, rfl⟩ | ⟨blk, off, cap, rfl, hc, hm, hb, hne⟩⟩ := h
  · have h0 : n = 0 := by simpa using hn
    subst h0
    refine ⟨if c = 0 then a else a.map (·.add (0 * 1)), c - 0, fun W => ?_, fun i => by simp, .inl ⟨⟨_, _, rfl⟩, rfl⟩⟩
    rw [run_slice_l W _ _ _ _ elem_bytes .i64 _ (by omega) (by omega), elem_is, size_byte]
    rfl
  · refine ⟨if cap = n then some ⟨blk, off, none⟩ else some ⟨blk, off + n, none⟩, cap - n, fun W => ?_, hz.drop n, ?_⟩
    · rw [run_slice_l W _ _ _ _ elem_bytes .i64 _ (by omega) (by omega), elem_is, size_byte]
      show Result.ok (sliced _ _ _ _ _) W = _
      unfold sliced
      rw [Int.toNat_natCast, Nat.mul_one]
      congr 2
      show (if cap = n then some (⟨blk, off, none⟩ : Addr) else some (Addr.add ⟨blk, off, none⟩ n)) = _
      rw [show Addr.add ⟨blk, off, none⟩ n = ⟨blk, off + n, none⟩ from by unfold Addr.add; split <;> simp_all]
    · have hl : (zs.drop n).length = zs.length - n := List.length_drop
      by_cases hcap : cap = n
      · refine .inl ⟨⟨if cap = n then some ⟨blk, off, none⟩ else some ⟨blk, off + n, none⟩, cap - n, ?_⟩, List.drop_eq_nil_of_le (by omega)⟩
        rw [show zs.length - n = 0 from by omega]
      · refine .inr ⟨blk, off + n, cap - n, ?_, by omega, by omega, fun i hi => ?_, fun hp => hne (by omega)⟩
        · rw [if_neg hcap, hl]
        · rw [List.getElem?_drop, Nat.add_assoc]
          exact hb (n + i) (by omega)

/-- v[:n] of bytes. -/
theorem BySl.cutH {S : Nat → Prop} {w : World} {v : Value} {zs : List Int} (h : BySl S w v zs) (n : Nat) (hn : n ≤ zs.length) :
    ∃ x c, (∀ W, (Instr.slice 40 v none (some (.int .i64 (n : Int))) none).run Tryz.prog W = .ok (.slice x n c) W) ∧ BySl S w (.slice x n c) (zs.take n) := by
  obtain ⟨hz, ⟨⟨a, c, rfl⟩, rfl⟩ | ⟨blk, off, cap, rfl, hc, hm, hb, hne⟩⟩ := h
  · have h0 : n = 0 := by simpa using hn
    subst h0
    refine ⟨if c = 0 then a else a.map (·.add (0 * 1)), c - 0, fun W => ?_, fun i => by simp, .inl ⟨⟨_, _, rfl⟩, rfl⟩⟩
    rw [run_slice_h W _ _ _ _ elem_bytes .i64 _ (by omega) (by omega), elem_is, size_byte]
    rfl
  · refine ⟨some ⟨blk, off, none⟩, cap, fun W => ?_, hz.take n, ?_⟩
    · rw [run_slice_h W _ _ _ _ elem_bytes .i64 _ (by omega) (by omega), elem_is, size_byte]
      show Result.ok (sliced _ _ _ _ _) W = _
      unfold sliced
      congr 2
      split <;> simp [Addr.add]
    · have hl : (zs.take n).length = n := by rw [List.length_take]; omega
      refine .inr ⟨blk, off, cap, ?_, by omega, hm, fun i hi => ?_, fun hp => hne (by omega)⟩
      · rw [hl]
      · rw [hl] at hi
        rw [List.getElem?_take_of_lt hi]
        exact hb i (by omega)

theorem own_slice {w : World} {base n : Nat} {t : TypeId} {size : Nat} {v : Value} {xs : List Value} (h : w.ownsRow base t size v n xs) : ∃ a c, v = .slice a n c := by
  rcases h.2 with ⟨rfl, h0⟩ | ⟨g, cap, cur, rfl, _⟩
  · exact ⟨none, 0, by rw [h0]⟩
  · exact ⟨_, _, rfl⟩

set_option maxHeartbeats 400000 in
theorem read_any {S : Nat → Prop} (v : Value) (zs : List Int) (w : World) (h : BySl S w v zs) (hbig : zs.length ≤ 140737488355328) :
    Calls Tryz.prog 29 #[v] w fun e w' => ∃ B, w.heap.size ≤ B ∧ e = .returned (.pointer (some ⟨B, 0, none⟩)) ∧ EyeAt w' B zs 0 ∧ Kp Nb w w' := by
  have H := hid h
  clear h
  go_enter Tryz.func29, Tryz.ntmps29
  go_wp2_with fail
  refine (clone_any v zs _ H.out hbig).mono ?_
  rintro e w1 ⟨v', rfl, ho, k1⟩
  obtain ⟨x', c', rfl⟩ := own_slice ho
  have HO := hid ho
  have K1 := hid k1
  clear ho k1
  go_wp2
  go_ret
  have hsz := K1.out.size
  refine ⟨w1.heap.size, hsz, rfl, ⟨_, Blk.new w1 71 [.slice x' zs.length c', .int .i64 0], ?_⟩, K1.out.alloc _⟩
  have hb : BySl (Jb w1.heap.size) w1 (.slice x' zs.length c') zs := BySl.ofOwn HO.out H.out.1 (fun k _ hk h => by unfold Jb at h; omega)
  exact hb.kept (S' := Nb) ((Kp.refl Nb w1).alloc _) (fun _ h => absurd h (fun h => h))

def readN (zs : List Int) (e most : Int) : Int × List Int × Int :=
  if e ≠ 0 then (0, zs, e)
  else if (firstOf zs).2.2 ≠ 0 then (0, [], (firstOf zs).2.2)
  else if most < (firstOf zs).1 then (0, [], 12)
  else ((firstOf zs).1, zs.drop (firstOf zs).2.1, 0)

set_option maxRecDepth 100000 in
set_option maxHeartbeats 1000000 in
theorem number_any (B : Nat) (zs : List Int) (e most : Int) (w : World) (h : EyeAt w B zs e) :
    Calls Tryz.prog 50 #[.pointer (some ⟨B, 0, none⟩), .int .u64 most] w fun r w' => r = .returned (.int .u64 (readN zs e most).1) ∧ EyeAt w' B (readN zs e most).2.1 (readN zs e most).2.2 ∧ Kp (Jb B) w w' := by
  have H := hid h
  obtain ⟨v, hb, hv⟩ := h
  have c0 := hb.cell 0
  simp only [List.getElem?_cons_zero] at c0
  have f0 := hb.frozen 0
  have HB := hid hb
  have HV := hid hv
  clear hb hv
  obtain ⟨R, hR⟩ : ∃ R, R = readN zs e most := ⟨_, rfl⟩
  rw [← hR]
  have HR := hid hR
  clear hR
  unfold readN at HR
  by_cases he : e = 0
  · subst he
    have HR2 := HR.out.trans (if_neg (fun h => h rfl))
    have HR := hid HR2
    clear HR2
    have hok := firstOf_ok zs
    have HF : Hid (firstVal zs = .tuple #[.int .u64 (firstOf zs).1, .int .i64 (firstOf zs).2.1, .int .i64 (firstOf zs).2.2]) := (rfl : firstVal zs = firstVal zs)
    obtain ⟨⟨U, N, E⟩, hF⟩ : ∃ F, F = firstOf zs := ⟨_, rfl⟩
    rw [← hF] at HR hok HF
    clear hF
    simp only at HR hok HF
    go_enter Tryz.func50, Tryz.ntmps50
    go_wp2_with fail
    refine (err_any B zs 0 _ H.out).mono ?_
    rintro r w1 ⟨rfl, rfl⟩
    go_wp2_with fail
    refine (firstb_any v zs _ HV.out).mono ?_
    rintro r w1 ⟨rfl, rfl⟩
    rw [HF.out]
    by_cases hE : E = 0
    · subst hE
      have HR2 := HR.out.trans (if_neg (fun h => h rfl))
      by_cases hm : most < U
      · rw [if_pos hm] at HR2
        subst HR2
        clear HR hok
        go_wp2_with fail
        refine (fail_any B zs 0 12 _ H.out).mono ?_
        rintro r w2 ⟨rfl, h2, k2⟩
        have H2 := hid h2
        have K2 := hid k2
        clear h2 k2
        go_wp2
        go_ret
        exact ⟨rfl, H2.out, K2.out⟩
      · rw [if_neg hm] at HR2
        subst HR2
        clear HR
        have hN := hok rfl
        clear hok
        obtain ⟨xv, cv, hV1, hV2⟩ := HV.out.cutL N hN.2
        have HV2 := hid hV2
        clear hV2
        go_wp2
        go_ret
        refine ⟨rfl, ⟨_, HB.out.set 0 _, ?_⟩, (Kp.refl _ _).set 0 _⟩
        exact HV2.out.kept ((Kp.refl (Jb B) _).set 0 _) (fun _ h => h)
    · have HR2 := HR.out
      rw [if_pos hE] at HR2
      subst HR2
      clear HR hok
      have g1 : (E == 0) = false := by rw [beq_eq_false_iff_ne]; exact hE
      have g2 : (E != 0) = true := by rw [bne_iff_ne]; exact hE
      have HE := hid hE
      clear hE
      go_wp2_with fail
      refine (fail_any B zs 0 E _ H.out).mono ?_
      rintro r w2 ⟨rfl, h2, k2⟩
      have e1 : failS zs 0 E = [] := by unfold failS; rw [if_pos ⟨rfl, HE.out⟩]
      have e2 : failE 0 E = E := by unfold failE; rw [if_pos ⟨rfl, HE.out⟩]
      rw [e1, e2] at h2
      have H2 := hid h2
      have K2 := hid k2
      clear h2 k2 e1 e2
      go_wp2
      go_ret
      exact ⟨rfl, H2.out, K2.out⟩
  · have HR2 := HR.out
    rw [if_pos he] at HR2
    subst HR2
    clear HR
    have g1 : (e != 0) = true := by rw [bne_iff_ne]; exact he
    clear he
    go_enter Tryz.func50, Tryz.ntmps50
    go_wp2_with fail
    refine (err_any B zs e _ H.out).mono ?_
    rintro r w1 ⟨rfl, rfl⟩
    go_wp2
    go_ret
    exact ⟨rfl, H.out, Kp.refl _ _⟩

end Go.Proofs.YtbbfibgijackhaaGreatDoor
