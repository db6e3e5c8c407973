/-
  Walks of the document's own answer for layer 2: Zig, Zag, Number, Text. Conditions: what numbers of these types are; fewer than 2^62 bytes.
-/
import Derived.Test.YtmgmghlflldepaaPenM
import Derived.Test.YtmgmghlflldepaaRefH
namespace Go.Proofs.Ytmgmghlflldepaa
open Go.RowKit



def RnR (u : Int) (k : Nat) (w : World) (v s : Value) (wr : World) : Prop :=
  ∃ j : Nat, j ≤ k ∧ v = .int .u64 (u / 2 ^ (8 * j)) ∧ s = .string (st ((digits u k k).drop (k - j))) ∧ Hid (Kp Nb w wr)

theorem digits_get (u : Int) (k i : Nat) (hi : i < k) : (digits u k k)[i]?.getD 0 = digit u k i := by
  unfold digits
  simp [hi]
theorem digits_drop (u : Int) (k j : Nat) (hj : j < k) : (digits u k k).drop (k - (j + 1)) = u / 2 ^ (8 * j) % 256 :: (digits u k k).drop (k - j) := by
  have hl := digits_length u k k
  have hd := List.drop_eq_getElem_cons (l := digits u k k) (i := k - (j + 1)) (by omega)
  have hg := digits_get u k (k - (j + 1)) (by omega)
  rw [List.getElem?_eq_getElem (by omega), Option.getD_some] at hg
  rw [hd, hg, show k - (j + 1) + 1 = k - j from by omega]
  unfold digit
  rw [show k - 1 - (k - (j + 1)) = j from by omega]

set_option maxRecDepth 100000 in
set_option maxHeartbeats 400000 in
theorem refn_number (u : Int) (w : World) (h0 : 0 ≤ u) (h1 : u < 18446744073709551616) :
    Calls Try.prog 36 #[.int .u64 u] w fun e w' => e = .returned (.string (st (numBytes u))) ∧ Kp Nb w w' := by
  by_cases hle : u ≤ 247
  · have hc := fun w => conv_one w u h0 (by omega)
    have hn := hid (show numBytes u = [u] by unfold numBytes; rw [if_pos hle])
    go_enter Try.func36, Try.ntmps36
    go_wp2
    go_ret
    exact ⟨by rw [hn.out]; rfl, (Kp.refl Nb w).alloc _⟩
  · obtain ⟨k1, k2, k3⟩ := kOf_bounds u (by omega) h1
    have k8 := kOf_le u h1
    have hn := hid (show numBytes u = [247 + (kOf u : Int)] ++ digits u (kOf u) (kOf u) by unfold numBytes; rw [if_neg hle])
    obtain ⟨k, hk⟩ : ∃ k, k = kOf u := ⟨_, rfl⟩
    rw [← hk] at k1 k2 k3 k8 hn
    have K2 := hid k2
    have K3 := hid k3
    have H0 := hid h0
    clear hk k2 k3
    go_enter Try.func36, Try.ntmps36
    go_wp2
    go_loopw [0, 3] (RnR u k w) (fun v _ _ => (intOf v).toNat)
    case atStart => exact ⟨0, Nat.zero_le _, by simp, by rw [Nat.sub_zero, List.drop_of_length_le (by rw [digits_length]; exact Nat.le_refl _)]; rfl, Kp.refl Nb w⟩
    case round =>
      obtain ⟨j, hj, rfl, rfl, hkp⟩ := hrel
      by_cases hjk : j < k
      · have hp := pow_le (8 * j) (8 * (k - 1)) (by omega)
        have hpp : (0 : Int) < 2 ^ (8 * j) := Int.pow_pos (by decide)
        obtain ⟨X, hX⟩ : ∃ X, X = u / 2 ^ (8 * j) := ⟨_, rfl⟩
        have x0 : 1 ≤ X := by rw [hX]; exact (Int.le_ediv_iff_mul_le hpp).2 (by have := K2.out; omega)
        have x1 : X ≤ u := by rw [hX]; exact Int.ediv_le_self _ H0.out
        have x2 : X < 18446744073709551616 := by omega
        have xn : X / 256 = u / 2 ^ (8 * (j + 1)) := by
          rw [hX, Int.ediv_ediv_of_nonneg (Int.le_of_lt hpp), show (2 : Int) ^ (8 * (j + 1)) = 2 ^ (8 * j) * 256 from by rw [show 8 * (j + 1) = 8 * j + 8 from by omega, Int.pow_add]; rfl]
        have hs := digits_drop u k j hjk
        rw [← hX] at hs ⊢
        have hc := conv_one wr (X % 256) (by omega) (by omega)
        obtain ⟨S, hS⟩ : ∃ S, S = st ((digits u k k).drop (k - j)) := ⟨_, rfl⟩
        have hSz : S.size ≤ 8 := by rw [hS, st_size, List.length_drop, digits_length]; omega
        have hSt : Hid (st [X % 256] ++ S = st ((digits u k k).drop (k - (j + 1)))) := by rw [hs, hS]; unfold Hid; rw [← st_append]; rfl
        have g2 : ¬ (9223372036854775807 < (st [X % 256]).size + S.size) := by rw [st_size]; simp only [List.length_cons, List.length_nil]; omega
        have gx : 0 < X := by omega
        rw [← hS]
        have HR := hid (show RnR u k w (.int .u64 (X / 256)) (.string (st [X % 256] ++ S)) (wr.alloc (.cells #[.int .u8 (X % 256)] 5)) from ⟨j + 1, by omega, by rw [xn], by rw [hSt.out], hkp.out.alloc _⟩)
        have HM := hid (show (intOf (.int .u64 (X / 256))).toNat < (intOf (.int .u64 X)).toNat by simp only [intOf]; omega)
        clear hX hs hS hSt xn hpp hp x1
        go_wp2
        exact ⟨HR.out, HM.out⟩
      · obtain rfl : j = k := by omega
        have hz : u / 2 ^ (8 * j) = 0 := Int.ediv_eq_zero_of_lt H0.out K3.out
        rw [hz, Nat.sub_self, List.drop_zero]
        have hc := conv_one wr (247 + (j : Int)) (by omega) (by omega)
        have hsz : (st (digits u j j)).size = j := by rw [st_size, digits_length]
        have hSt := hid (show st [247 + (j : Int)] ++ st (digits u j j) = st (numBytes u) by rw [hn.out, st_append])
        obtain ⟨S, hS⟩ : ∃ S, S = st (digits u j j) := ⟨_, rfl⟩
        rw [← hS] at hsz hSt ⊢
        have g2 : ¬ (9223372036854775807 < (st [247 + (j : Int)]).size + S.size) := by rw [st_size, hsz]; simp only [List.length_cons, List.length_nil]; omega
        clear hS hz
        go_wp2
        go_ret
        exact ⟨by rw [← hSt.out]; rfl, hkp.out.alloc _⟩

set_option maxHeartbeats 400000 in
theorem refn_text (zs : List Int) (w : World) (hl : zs.length < 4611686018427387904) :
    Calls Try.prog 19 #[.string (st zs)] w fun e w' => e = .returned (.string (st (numBytes zs.length ++ zs))) ∧ Kp Nb w w' := by
  have hsz := st_size zs
  have hln := numBytes_length (zs.length : Int) (by omega)
  have hsn := st_size (numBytes (zs.length : Int))
  have HS := hid (st_append (numBytes (zs.length : Int)) zs)
  go_enter Try.func19, Try.ntmps19
  go_wp2_with fail
  refine (refn_number (zs.length : Int) _ (by omega) (by omega)).mono ?_
  rintro e w1 ⟨rfl, k1⟩
  have K1 := hid k1
  have g2 : ¬ (9223372036854775807 < (st (numBytes (zs.length : Int))).size + (st zs).size) := by rw [hsz, hsn]; omega
  clear k1
  obtain ⟨S, hS⟩ : ∃ S, S = st (numBytes (zs.length : Int)) := ⟨_, rfl⟩
  rw [← hS] at g2 HS hsn ⊢
  clear hS hsn
  go_wp2
  go_ret
  exact ⟨by rw [HS.out]; rfl, K1.out⟩

end Go.Proofs.Ytmgmghlflldepaa
