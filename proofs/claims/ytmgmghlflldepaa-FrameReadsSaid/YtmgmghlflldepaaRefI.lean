/-
  Walks of the document's own answer for layer 2: the eye: Fail, End, Fixed, Number, Text. Conditions: what numbers of these types are; fewer than 2^62 bytes.
-/
import Derived.Test.YtmgmghlflldepaaRefN
import Derived.Test.YtmgmghlflldepaaOrdKit
namespace Go.Proofs.Ytmgmghlflldepaa
open Go.RowKit

/-- The document's eye: what is left, the error. -/
def RefAt (w : World) (B : Nat) (zs : List Int) (e : Int) : Prop := Blk w B 70 [.string (st zs), .int .i64 e]
theorem RefAt.kept {S : Nat → Prop} {w w' : World} {B : Nat} {zs : List Int} {e : Int} (h : RefAt w B zs e) (k : Kp S w w') (hS : ¬ S B) : RefAt w' B zs e := Blk.kept h k hS

set_option maxHeartbeats 400000 in
theorem refi_fail (B : Nat) (zs : List Int) (e f : Int) (w : World) (h : RefAt w B zs e) :
    Calls Try.prog 32 #[.pointer (some ⟨B, 0, none⟩), .int .i64 f] w fun r w' => r = .returned (.tuple #[]) ∧ RefAt w' B (failS zs e f) (failE e f) ∧ Kp (Jb B) w w' := by
  have c1 := Blk.cell h 1
  have c0 := Blk.cell h 0
  simp only [List.getElem?_cons_zero, List.getElem?_cons_succ] at c0 c1
  have f0 := Blk.frozen h 0
  have f1 := Blk.frozen h 1
  have HB := hid h
  clear h
  by_cases h0 : e = 0
  · by_cases h1 : f = 0
    · have g1 : (f != 0) = false := by rw [bne_eq_false_iff_eq]; exact h1
      subst h0 h1
      go_enter Try.func32, Try.ntmps32
      go_wp2
      go_end0
      exact ⟨rfl, HB.out, Kp.refl _ _⟩
    · have HN := hid (show (e = 0 ∧ f ≠ 0) from ⟨h0, h1⟩)
      have g1 : (f != 0) = true := by rw [bne_iff_ne]; exact h1
      subst h0
      go_enter Try.func32, Try.ntmps32
      go_wp2
      go_end0
      refine ⟨rfl, ?_, ((Kp.refl (Jb B) w).set 1 _).set 0 _⟩
      have hf := HN.out.2
      simp only [failS, failE, ne_eq, hf, not_false_eq_true, and_true, if_true]
      exact (Blk.set HB.out 1 (.int .i64 f)).set 0 (.string (st []))
  · have HN := hid (show ¬ (e = 0 ∧ f ≠ 0) by omega)
    have g1 : (e == 0) = false := by rw [beq_eq_false_iff_ne]; exact h0
    go_enter Try.func32, Try.ntmps32
    go_wp2
    go_end0
    exact ⟨rfl, by unfold failS failE; rw [if_neg HN.out, if_neg HN.out]; exact HB.out, Kp.refl _ _⟩

theorem st_empty (zs : List Int) : (st zs).toList.isEmpty = decide (zs = []) := by
  rw [st_list]
  cases zs with
  | nil => rfl
  | cons a r => simp

set_option maxRecDepth 100000 in
set_option maxHeartbeats 400000 in
theorem refi_fixed (B : Nat) (zs : List Int) (e n : Int) (w : World) (h : RefAt w B zs e) :
    Calls Try.prog 34 #[.pointer (some ⟨B, 0, none⟩), .int .i64 n] w fun r w' => r = .returned (.string (st (fixN zs e n).1)) ∧ RefAt w' B (fixN zs e n).2.1 (fixN zs e n).2.2 ∧ Kp (Jb B) w w' := by
  have c1 := Blk.cell h 1
  have c0 := Blk.cell h 0
  simp only [List.getElem?_cons_zero, List.getElem?_cons_succ] at c0 c1
  have f0 := Blk.frozen h 0
  have H := hid h
  clear h
  have hst := st_size zs
  obtain ⟨R, hR⟩ : ∃ R, R = fixN zs e n := ⟨_, rfl⟩
  rw [← hR]
  have HR := hid hR
  clear hR
  unfold fixN at HR
  by_cases he : e = 0
  · subst he
    have HR2 := HR.out.trans (if_neg (fun h => h rfl))
    by_cases hn : n < 0
    · rw [if_pos hn] at HR2
      subst HR2
      clear HR
      go_enter Try.func34, Try.ntmps34
      go_wp2_with fail
      refine (refi_fail B zs 0 2 _ H.out).mono ?_
      rintro r w2 ⟨rfl, h2, k2⟩
      have H2 := hid h2
      have K2 := hid k2
      clear h2 k2
      go_wp2
      go_ret
      exact ⟨rfl, H2.out, K2.out⟩
    · rw [if_neg hn] at HR2
      by_cases hl : (zs.length : Int) < n
      · rw [if_pos hl] at HR2
        subst HR2
        clear HR
        go_enter Try.func34, Try.ntmps34
        go_wp2_with fail
        refine (refi_fail B zs 0 10 _ H.out).mono ?_
        rintro r w2 ⟨rfl, h2, k2⟩
        have H2 := hid h2
        have K2 := hid k2
        clear h2 k2
        go_wp2
        go_ret
        exact ⟨rfl, H2.out, K2.out⟩
      · rw [if_neg hl] at HR2
        subst HR2
        clear HR
        obtain ⟨m, rfl⟩ := Int.eq_ofNat_of_zero_le (show 0 ≤ n by omega)
        rw [Int.toNat_natCast]
        have e1 := st_take zs m
        have e2 := st_extract zs m
        have E1 := hid e1
        have E2 := hid e2
        clear e1 e2
        go_enter Try.func34, Try.ntmps34
        go_wp2
        go_ret
        rw [E1.out, E2.out]
        exact ⟨rfl, Blk.set H.out 0 _, (Kp.refl _ _).set 0 _⟩
  · have HR2 := HR.out.trans (if_pos he)
    subst HR2
    clear HR
    have g1 : (e != 0) = true := by rw [bne_iff_ne]; exact he
    clear he
    go_enter Try.func34, Try.ntmps34
    go_wp2
    go_ret
    exact ⟨rfl, H.out, Kp.refl _ _⟩

theorem be_inj : ∀ (xs ys : List Int), IsBytes xs → IsBytes ys → xs.length = ys.length → beN xs = beN ys → xs = ys
  | [], [], _, _, _, _ => rfl
  | [], _ :: _, _, _, h, _ => by simp at h
  | _ :: _, [], _, _, h, _ => by simp at h
  | a :: x, b :: y, hx, hy, h, e => by
    have hl : x.length = y.length := by simpa using h
    have rx := beN_range x hx.tail
    have ry := beN_range y hy.tail
    have ih := be_inj x y hx.tail hy.tail hl
    rw [beN_cons, beN_cons, ← hl] at e
    rw [← hl] at ry
    obtain ⟨Q, hQ⟩ : ∃ Q : Int, Q = 256 ^ x.length := ⟨_, rfl⟩
    rw [← hQ] at rx ry e
    rcases Int.lt_trichotomy a b with h1 | h1 | h1
    · have : (a + 1) * Q ≤ b * Q := Int.mul_le_mul_of_nonneg_right (by omega) (by omega)
      rw [Int.add_mul] at this
      omega
    · subst h1
      rw [ih (by omega)]
    · have : (b + 1) * Q ≤ a * Q := Int.mul_le_mul_of_nonneg_right (by omega) (by omega)
      rw [Int.add_mul] at this
      omega
theorem first_back (zs : List Int) (hz : IsBytes zs) (k : Nat) (hk : zs[0]?.getD 0 = 247 + (k : Int)) (k1 : 1 ≤ k) (hl : 1 + k ≤ zs.length) :
    (numBytes (beTo (zs.drop 1) k) = zs.take (1 + k)) ↔ sizeN (beTo (zs.drop 1) k) = 1 + k := by
  have h0 := hz 0
  rw [hk] at h0
  have hr := beTo_range (zs.drop 1) k
  have hb := beTo_num (zs.drop 1) (hz.drop 1) k (by omega) (by rw [List.length_drop]; omega)
  obtain ⟨U, hU⟩ : ∃ U, U = beTo (zs.drop 1) k := ⟨_, rfl⟩
  rw [← hU] at hr hb ⊢
  refine ⟨fun e => ?_, fun e => ?_⟩
  · rw [← numBytes_size, e, List.length_take]; omega
  · rcases numBytes_head U hr.1 hr.2 with ⟨hu, eu⟩ | ⟨hu, ku, eu, lu, mu⟩
    · rw [← numBytes_size, eu] at e
      simp at e
      omega
    · have hs := e
      rw [← numBytes_size, eu, List.length_cons, digits_length] at hs
      have hkk : kOf U = k := by omega
      have ht : zs.take (1 + k) = (247 + (k : Int)) :: (zs.drop 1).take k := by
        cases zs with
        | nil => simp at hl
        | cons a r =>
          simp only [List.getElem?_cons_zero, Option.getD_some] at hk
          rw [Nat.add_comm, List.take_succ_cons, hk]
          rfl
      rw [eu, ht, hkk]
      congr 1
      have hd := digits_all U hr.1 (kOf U) mu
      rw [hkk] at hd
      rw [hb] at hd
      exact be_inj _ _ (digits_bytes _ _ _) ((hz.drop 1).take k) (by rw [digits_length, List.length_take, List.length_drop]; omega) (by rw [← hb]; rw [← hb] at hd; exact hd)


theorem sl_h (zs : List Int) (n : Nat) (hn : n ≤ zs.length) (w : World) : (Instr.slice 9 (.string (st zs)) none (some (.int .i64 (n : Int))) none).run Try.prog w = .ok (.string (st (zs.take n))) w := by
  rw [run_slice_string_h (P := Try.prog) w 9 (st zs) Try.underlying9 .i64 n (by omega) (by rw [st_size]; omega), Int.toNat_natCast, st_take]
theorem sl_l (zs : List Int) (n : Nat) (hn : n ≤ zs.length) (w : World) : (Instr.slice 9 (.string (st zs)) (some (.int .i64 (n : Int))) none none).run Try.prog w = .ok (.string (st (zs.drop n))) w := by
  rw [run_slice_string_l (P := Try.prog) w 9 (st zs) Try.underlying9 .i64 n (by omega) (by rw [st_size]; omega), Int.toNat_natCast, st_size, st_extract]

def RfR (ys : List Int) (k : Nat) (u i : Value) : Prop := ∃ j : Nat, j ≤ k ∧ i = .int .i64 ((j : Int) + 1) ∧ u = .int .u64 (beTo ys j)

theorem beTo_next (ys : List Int) (hy : IsBytes ys) (j : Nat) (hj : j < 8) (hl : j < ys.length) : IntKind.u64.wrap (IntKind.u64.wrap (beTo ys j * 256) + (ys[j]?.getD 0)) = beTo ys (j + 1) := by
  have hr := beN_range (ys.take j) (hy.take j)
  rw [List.length_take, Nat.min_eq_left (by omega), ← beTo_num ys hy j (by omega) (by omega)] at hr
  have hp : (256 : Int) ^ j ≤ 256 ^ 7 := by
    rw [pow_nat, pow_nat]
    have := Nat.pow_le_pow_right (n := 2) (by decide) (show 8 * j ≤ 8 * 7 by omega)
    omega
  have hq : (256 : Int) ^ 7 = 72057594037927936 := by decide
  have hx := hy j
  show _ = bits .or .u64 (IntKind.u64.wrap (beTo ys j * 256)) (ys[j]?.getD 0)
  rw [or_step _ _ hr.1 (by omega) hx.1 hx.2, IntKind.wrap_u64, IntKind.wrap_u64]
  omega

set_option maxRecDepth 100000 in
set_option maxHeartbeats 1000000 in
theorem refi_number (B : Nat) (zs : List Int) (e most : Int) (w : World) (h : RefAt w B zs e) (hz : IsBytes zs) :
    Calls Try.prog 31 #[.pointer (some ⟨B, 0, none⟩), .int .u64 most] w fun r w' => r = .returned (.int .u64 (readN zs e most).1) ∧ RefAt w' B (readN zs e most).2.1 (readN zs e most).2.2 ∧ Kp (Jb B) w w' := by
  have c1 := Blk.cell h 1
  have c0 := Blk.cell h 0
  simp only [List.getElem?_cons_zero, List.getElem?_cons_succ] at c0 c1
  have f0 := Blk.frozen h 0
  have H := hid h
  have HZ := hid hz
  clear h hz
  have hst := st_size zs
  obtain ⟨R, hR⟩ : ∃ R, R = readN zs e most := ⟨_, rfl⟩
  rw [← hR]
  have HR := hid hR
  clear hR
  unfold readN at HR
  by_cases he : e = 0
  · subst he
    have HR2 := HR.out.trans (if_neg (fun h => h rfl))
    unfold firstOf at HR2
    clear HR
    by_cases hl0 : zs.length = 0
    · rw [if_pos hl0] at HR2
      subst HR2
      have hl1 : (zs.length : Int) = 0 := by omega
      clear hl0
      go_enter Try.func31, Try.ntmps31
      go_wp2_with fail
      refine (refi_fail B zs 0 10 _ H.out).mono ?_
      rintro r w2 ⟨rfl, h2, k2⟩
      have H2 := hid h2
      have K2 := hid k2
      clear h2 k2
      go_wp2
      go_ret
      exact ⟨rfl, H2.out, K2.out⟩
    · rw [if_neg hl0] at HR2
      have hi0 : ∀ w, (Instr.index 9 (.string (st zs)) (.int .i64 0)).run Try.prog w = .ok (.int .u8 (zs[0]?.getD 0)) w := fun w => idx_any zs w HZ.out 0 (by omega)
      have hx := HZ.out 0
      have hpos : (0 : Int) < (zs.length : Int) := by omega
      have hpos2 : ¬ (zs.length : Int) = 0 := by omega
      have hpos3 : ¬ (zs.length : Int) < 1 := by omega
      have hw1 : IntKind.i64.wrap 1 = 1 := by decide
      by_cases hle : zs[0]?.getD 0 ≤ 247
      · rw [if_pos hle] at HR2
        obtain ⟨z, hzz⟩ : ∃ z, z = zs[0]?.getD 0 := ⟨_, rfl⟩
        rw [← hzz] at HR2 hi0 hx hle
        have HN : Hid (numBytes z = zs.take 1) := by
          unfold Hid numBytes
          rw [if_pos hle]
          cases zs with
          | nil => simp at hl0
          | cons a r => simpa using hzz
        simp only [ne_eq, not_true_eq_false, if_false] at HR2
        have HR := hid HR2
        clear HR2 hl0
        obtain ⟨S, hS⟩ : ∃ S, S = st zs := ⟨_, rfl⟩
        have H : Hid (Blk w B 70 [.string S, .int .i64 0]) := by rw [hS]; exact H
        have HS := hid hS
        have s1 : ∀ w, (Instr.slice 9 (.string S) none (some (.int .i64 1)) none).run Try.prog w = .ok (.string (st (zs.take 1))) w := fun w => by rw [hS]; exact sl_h zs 1 (by omega) w
        have s2 : ∀ w, (Instr.slice 9 (.string S) (some (.int .i64 1)) none none).run Try.prog w = .ok (.string (st (zs.drop 1))) w := fun w => by rw [hS]; exact sl_l zs 1 (by omega) w
        have CN : Hid (∀ w, Calls Try.prog 36 #[.int .u64 z] w fun e w' => e = .returned (.string (st (zs.take 1))) ∧ Kp Nb w w') := fun w => by rw [← HN.out]; exact refn_number z w (by omega) (by omega)
        obtain ⟨T, hT⟩ : ∃ T, T = st (zs.take 1) := ⟨_, rfl⟩
        rw [← hT] at s1 CN
        rw [← hS] at c0 hst hi0
        clear hS hT hzz
        go_enter Try.func31, Try.ntmps31
        go_wp2
        refine wp_loop_rounds 1 ?_
        rw [rounds_succ]
        go_wp2_with fail
        go_region_held3 (fun w' => w'.cell? ⟨B, 0, none⟩ = some (.string S))
          (first | exact c0 | exact Kp.cell kh.out c0 (fun h => h))
          (first
            | (go_at_call 36; refine (CN.out _).mono ?_; rintro e wy ⟨rfl, k'⟩; have kh := hid (Kp.trans (S := Nb) (Kp.drew (Kp.refl Nb w)) k' (fun _ _ h => h)); clear k'))
        have HY := hid (Blk.kept H.out kh.out (fun h => h))
        have KY := hid (kh.out.mono (S' := Jb B) (fun _ _ h => absurd h (fun h => h)))
        have d0 := Blk.cell HY.out 0
        simp only [List.getElem?_cons_zero] at d0
        have g0 := Blk.frozen HY.out 0
        by_cases hm : most < z
        · have HR2 := HR.out
          rw [if_pos hm] at HR2
          subst HR2
          clear HR
          have HY' : Hid (RefAt wy B zs 0) := by rw [HS.out] at HY; exact HY
          go_wp2_with fail
          refine (refi_fail B zs 0 12 _ HY'.out).mono ?_
          rintro r w2 ⟨rfl, h2, k2⟩
          have H2 := hid h2
          have K2 := hid (KY.out.trans k2 (fun _ _ h => h))
          clear h2 k2
          go_wp2
          go_ret
          exact ⟨rfl, H2.out, K2.out⟩
        · have HR2 := HR.out
          rw [if_neg hm] at HR2
          subst HR2
          clear HR
          go_wp2
          go_ret
          exact ⟨rfl, Blk.set HY.out 0 _, KY.out.set 0 _⟩
      · obtain ⟨k, hk⟩ : ∃ k : Nat, zs[0]?.getD 0 = 247 + (k : Int) := ⟨(zs[0]?.getD 0 - 247).toNat, by omega⟩
        have ek : (247 + (k : Int) - 247).toNat = k := by omega
        rw [if_neg hle, hk, ek] at HR2
        rw [hk] at hi0 hx hle
        have h1k : 1 ≤ k := by omega
        have h8k : k ≤ 8 := by omega
        by_cases hlt : zs.length < 1 + k
        · rw [if_pos hlt] at HR2
          subst HR2
          clear hk
          go_enter Try.func31, Try.ntmps31
          go_wp2_with fail
          refine (refi_fail B zs 0 10 _ H.out).mono ?_
          rintro r w2 ⟨rfl, h2, k2⟩
          have H2 := hid h2
          have K2 := hid k2
          clear h2 k2
          go_wp2
          go_ret
          exact ⟨rfl, H2.out, K2.out⟩
        · rw [if_neg hlt] at HR2
          have HFB := hid (first_back zs HZ.out k hk h1k (by omega))
          obtain ⟨ys, hys⟩ : ∃ ys, ys = zs.drop 1 := ⟨_, rfl⟩
          have hyl : ys.length = zs.length - 1 := by rw [hys, List.length_drop]
          have HYB : Hid (IsBytes ys) := by rw [hys]; exact HZ.out.drop 1
          have HYS := hid hys
          rw [← hys] at HR2 HFB
          have HR := hid HR2
          obtain ⟨S, hS⟩ : ∃ S, S = st zs := ⟨_, rfl⟩
          have H : Hid (Blk w B 70 [.string S, .int .i64 0]) := by rw [hS]; exact H
          have HS := hid hS
          have s1 : ∀ w, (Instr.slice 9 (.string S) none (some (.int .i64 (1 + (247 + (k : Int) - 247)))) none).run Try.prog w = .ok (.string (st (zs.take (1 + k)))) w := fun w => by rw [hS, show (1 + (247 + (k : Int) - 247)) = ((1 + k : Nat) : Int) by omega]; exact sl_h zs (1 + k) (by omega) w
          have s2 : ∀ w, (Instr.slice 9 (.string S) (some (.int .i64 (1 + (247 + (k : Int) - 247)))) none none).run Try.prog w = .ok (.string (st (zs.drop (1 + k)))) w := fun w => by rw [hS, show (1 + (247 + (k : Int) - 247)) = ((1 + k : Nat) : Int) by omega]; exact sl_l zs (1 + k) (by omega) w
          have hxi : ∀ (j : Nat), j < k → ∀ w, (Instr.index 9 (.string S) (.int .i64 ((j : Int) + 1))).run Try.prog w = .ok (.int .u8 (ys[j]?.getD 0)) w := fun j hj w => by
            have := idx_any zs w HZ.out (1 + j) (by omega)
            rw [hS, hys, List.getElem?_drop, show ((j : Int) + 1) = ((1 + j : Nat) : Int) by omega]
            exact this
          have HXI := hid hxi
          obtain ⟨T, hT⟩ : ∃ T, T = st (zs.take (1 + k)) := ⟨_, rfl⟩
          have HT := hid hT
          rw [← hT] at s1
          rw [← hS] at c0 hst hi0
          have hwk : IntKind.i64.wrap (1 + (247 + (k : Int) - 247)) = 1 + (247 + (k : Int) - 247) := IntWalk.i64_in _ (by omega)
          have hlk : ¬ (zs.length : Int) < 1 + (247 + (k : Int) - 247) := by omega
          have hkk : ¬ (247 + (k : Int) - 247) = 0 := by omega
          clear hS hys hk hlt HR2 hxi hT
          go_enter Try.func31, Try.ntmps31
          go_wp2
          go_loop [6, 7] (RfR ys k) (fun _ i => k + 1 - (intOf i).toNat)
          case atStart => exact ⟨0, Nat.zero_le _, rfl, rfl⟩
          case round =>
            obtain ⟨j, hj, rfl, rfl⟩ := hrel
            by_cases hjk : j < k
            · have hxj := HXI.out j hjk
              have hyj := HYB.out j
              have hnext := beTo_next ys HYB.out j (by omega) (by omega)
              obtain ⟨X, hX⟩ : ∃ X, X = ys[j]?.getD 0 := ⟨_, rfl⟩
              rw [← hX] at hxj hyj hnext
              clear hX
              have HRel := hid (show RfR ys k (.int .u64 (IntKind.u64.wrap (IntKind.u64.wrap (beTo ys j * 256) + X))) (.int .i64 ((j : Int) + 1 + 1)) from ⟨j + 1, by omega, by go_num, by rw [hnext]⟩)
              have hbr := beTo_range ys j
              have gj : (j : Int) + 1 ≤ 247 + (k : Int) - 247 := by omega
              clear hnext
              go_wp2
              exact ⟨HRel.out, by simp [intOf]; omega⟩
            · obtain rfl : j = k := by omega
              have hbr := beTo_range ys j
              have gj : ¬ ((j : Int) + 1 ≤ 247 + (j : Int) - 247) := by omega
              obtain ⟨U, hU⟩ : ∃ U, U = beTo ys j := ⟨_, rfl⟩
              rw [← hU] at hbr HR HFB ⊢
              by_cases hs : sizeN U = 1 + j
              · have HR2 := HR.out
                rw [if_pos hs] at HR2
                simp only [ne_eq, not_true_eq_false, if_false] at HR2
                have CN : Hid (∀ w, Calls Try.prog 36 #[.int .u64 U] w fun e w' => e = .returned (.string T) ∧ Kp Nb w w') := fun w => by rw [HT.out, ← HFB.out.2 hs]; exact refn_number U w hbr.1 hbr.2
                clear hU HFB HXI HYB hi0
                go_wp2_with fail
                go_region_held3 (fun w' => w'.cell? ⟨B, 0, none⟩ = some (.string S))
                  (first | exact c0 | exact Kp.cell kh.out c0 (fun h => h))
                  (first
                    | (go_at_call 36; refine (CN.out _).mono ?_; rintro e wy ⟨rfl, k'⟩; have kh := hid (Kp.trans (S := Nb) (Kp.drew (Kp.refl Nb w)) k' (fun _ _ h => h)); clear k'))
                have HY := hid (Blk.kept H.out kh.out (fun h => h))
                have KY := hid (kh.out.mono (S' := Jb B) (fun _ _ h => absurd h (fun h => h)))
                have d0 := Blk.cell HY.out 0
                simp only [List.getElem?_cons_zero] at d0
                have g0 := Blk.frozen HY.out 0
                by_cases hm : most < U
                · rw [if_pos hm] at HR2
                  subst HR2
                  clear HR
                  have HY' : Hid (RefAt wy B zs 0) := by rw [HS.out] at HY; exact HY
                  go_wp2_with fail
                  refine (refi_fail B zs 0 12 _ HY'.out).mono ?_
                  rintro r w2 ⟨rfl, h2, k2⟩
                  have H2 := hid h2
                  have K2 := hid (KY.out.trans k2 (fun _ _ h => h))
                  clear h2 k2
                  go_wp2
                  go_ret
                  exact ⟨rfl, H2.out, K2.out⟩
                · rw [if_neg hm] at HR2
                  subst HR2
                  clear HR
                  go_wp2
                  go_ret
                  exact ⟨rfl, Blk.set HY.out 0 _, KY.out.set 0 _⟩
              · have HR2 := HR.out
                rw [if_neg hs] at HR2
                subst HR2
                have hne : ¬ numBytes U = zs.take (1 + j) := fun e => hs (HFB.out.1 e)
                have hxx : ((st (numBytes U)).toList == T.toList) = false := by
                  rw [HT.out, st_beq _ _ (numBytes_bytes U hbr.1 hbr.2) (HZ.out.take _), decide_eq_false hne]
                have CN : Hid (∀ w, Calls Try.prog 36 #[.int .u64 U] w fun e w' => e = .returned (.string (st (numBytes U))) ∧ Kp Nb w w') := fun w => refn_number U w hbr.1 hbr.2
                obtain ⟨SU, hSU⟩ : ∃ SU, SU = st (numBytes U) := ⟨_, rfl⟩
                rw [← hSU] at hxx CN
                clear hU HFB HXI HYB hi0 HR hSU hne hs
                go_wp2_with fail
                go_region_held3 (fun w' => w'.cell? ⟨B, 0, none⟩ = some (.string S))
                  (first | exact c0 | exact Kp.cell kh.out c0 (fun h => h))
                  (first
                    | (go_at_call 36; refine (CN.out _).mono ?_; rintro e wy ⟨rfl, k'⟩; have kh := hid (Kp.trans (S := Nb) (Kp.drew (Kp.refl Nb w)) k' (fun _ _ h => h)); clear k'))
                have HY := hid (Blk.kept H.out kh.out (fun h => h))
                have KY := hid (kh.out.mono (S' := Jb B) (fun _ _ h => absurd h (fun h => h)))
                have HY' : Hid (RefAt wy B zs 0) := by rw [HS.out] at HY; exact HY
                go_wp2_with fail
                refine (refi_fail B zs 0 11 _ HY'.out).mono ?_
                rintro r w2 ⟨rfl, h2, k2⟩
                have H2 := hid h2
                have K2 := hid (KY.out.trans k2 (fun _ _ h => h))
                clear h2 k2
                go_wp2
                go_ret
                exact ⟨rfl, H2.out, K2.out⟩
  · have HR2 := HR.out.trans (if_pos he)
    subst HR2
    clear HR
    have g1 : (e != 0) = true := by rw [bne_iff_ne]; exact he
    clear he
    go_enter Try.func31, Try.ntmps31
    go_wp2
    go_ret
    exact ⟨rfl, H.out, Kp.refl _ _⟩


set_option maxRecDepth 100000 in
set_option maxHeartbeats 400000 in
theorem refi_text (B : Nat) (zs : List Int) (e most : Int) (w : World) (h : RefAt w B zs e) (hz : IsBytes zs) (hm0 : -9223372036854775808 ≤ most) (hm1 : most < 9223372036854775808) :
    Calls Try.prog 33 #[.pointer (some ⟨B, 0, none⟩), .int .i64 most] w fun r w' => r = .returned (.string (st (textN zs e most).1)) ∧ RefAt w' B (textN zs e most).2.1 (textN zs e most).2.2 ∧ Kp (Jb B) w w' := by
  have hrng := readN_range zs e 18446744073709551615 hz
  have H := hid h
  have HZ := hid hz
  obtain ⟨R, hR⟩ : ∃ R, R = textN zs e most := ⟨_, rfl⟩
  rw [← hR]
  have HR := hid hR
  clear hR h hz
  unfold textN at HR
  go_enter Try.func33, Try.ntmps33
  go_wp2_with fail
  refine (refi_number B zs e _ _ H.out HZ.out).mono ?_
  rintro r w1 ⟨rfl, h1, k1⟩
  obtain ⟨⟨U, L, E⟩, hF⟩ : ∃ F, F = readN zs e 18446744073709551615 := ⟨_, rfl⟩
  rw [← hF] at HR hrng h1 ⊢
  clear hF
  simp only at HR hrng h1
  have c1 := Blk.cell h1 1
  simp only [List.getElem?_cons_zero, List.getElem?_cons_succ] at c1
  have H1 := hid h1
  have K1 := hid k1
  clear h1 k1
  by_cases hE : E = 0
  · subst hE
    have HR2 := HR.out.trans (if_neg (fun h => h rfl))
    clear HR
    by_cases hm : most < 0 ∨ most < U
    · rw [if_pos hm] at HR2
      subst HR2
      by_cases hm2 : most < 0
      · go_wp2_with fail
        refine (refi_fail B L 0 12 _ H1.out).mono ?_
        rintro r w3 ⟨rfl, h2, k2⟩
        have d1 : w3.cell? ⟨B, 1, none⟩ = some (.int .i64 12) := Blk.cell h2 1
        have H2 := hid h2
        have K2 := hid (K1.out.trans k2 (fun _ _ h => h))
        clear h2 k2
        go_wp2
        go_ret
        exact ⟨rfl, H2.out, K2.out⟩
      · have hm3 : most < U := hm.resolve_left hm2
        have hm4 : 0 ≤ most := by omega
        have hw : IntKind.u64.wrap most = most := IntWalk.u64_in _ (by omega)
        clear hm hm2
        go_wp2_with fail
        refine (refi_fail B L 0 12 _ H1.out).mono ?_
        rintro r w3 ⟨rfl, h2, k2⟩
        have d1 : w3.cell? ⟨B, 1, none⟩ = some (.int .i64 12) := Blk.cell h2 1
        have H2 := hid h2
        have K2 := hid (K1.out.trans k2 (fun _ _ h => h))
        clear h2 k2
        go_wp2
        go_ret
        exact ⟨rfl, H2.out, K2.out⟩
    · rw [if_neg hm] at HR2
      subst HR2
      have hm4 : 0 ≤ most := by omega
      have hm5 : ¬ most < U := by omega
      have hm6 : U ≤ most := by omega
      have hw : IntKind.u64.wrap most = most := IntWalk.u64_in _ (by omega)
      have hw2 : wrap64 U = U := by unfold wrap64; omega
      clear hm
      go_wp2_with fail
      refine (refi_fixed B L 0 U _ H1.out).mono ?_
      rintro r w3 ⟨rfl, h2, k2⟩
      have H2 := hid h2
      have K2 := hid (K1.out.trans k2 (fun _ _ h => h))
      clear h2 k2
      go_wp2
      go_ret
      exact ⟨rfl, H2.out, K2.out⟩
  · have HR2 := HR.out.trans (if_pos hE)
    subst HR2
    clear HR
    have g1 : (E != 0) = true := by rw [bne_iff_ne]; exact hE
    have g2 : (E == 0) = false := by rw [beq_eq_false_iff_ne]; exact hE
    clear hE
    go_wp2
    go_ret
    exact ⟨rfl, H1.out, K1.out⟩

end Go.Proofs.Ytmgmghlflldepaa
