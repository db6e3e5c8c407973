/-
  Layer 19: plain: what next finds in a frame's bytes, in a part of them, in bytes whose sum is turned. Conditions: bytes; a right frame.
-/
import Derived.Test.YtmgmghlflldepaaFrF
import Derived.Test.YtmgmghlflldepaaFrE
namespace Go.Proofs.Ytmgmghlflldepaa
open Go.RowKit

theorem fixN_take (zs : List Int) (n : Nat) (h : n ≤ zs.length) : fixN zs 0 (n : Int) = (zs.take n, zs.drop n, 0) := by
  unfold fixN
  rw [if_neg (by simp), if_neg (by omega), if_neg (by omega)]
  simp
theorem fixN_short (zs : List Int) (n : Nat) (h : zs.length < n) : fixN zs 0 (n : Int) = ([], [], 10) := by
  unfold fixN
  rw [if_neg (by simp), if_neg (by omega), if_pos (by omega)]
theorem fixN_bad (zs : List Int) (e n : Int) (h : e ≠ 0) : fixN zs e n = ([], zs, e) := by unfold fixN; rw [if_pos h]
theorem textN_tail (zs t : List Int) (hL : zs.length ≤ 2048) (hz : IsBytes zs) (ht : IsBytes t) : textN (numBytes zs.length ++ (zs ++ t)) 0 2048 = (zs, t, 0) := by
  unfold textN
  rw [readN_numBytes (zs.length : Int) 18446744073709551615 (by omega) (by omega) (by omega) (zs ++ t) (hz.append ht)]
  dsimp only
  rw [if_neg (by simp), if_neg (by omega), fixN_take _ _ (by simp)]
  simp
theorem textN_cut (zs r : List Int) (hL : zs.length ≤ 2048) (hr : IsBytes r) (hlt : r.length < zs.length) : (textN (numBytes zs.length ++ r) 0 2048).2.2 = 10 := by
  unfold textN
  rw [readN_numBytes (zs.length : Int) 18446744073709551615 (by omega) (by omega) (by omega) r hr]
  dsimp only
  rw [if_neg (by simp), if_neg (by omega), fixN_short _ _ hlt]
theorem firstOf_cut (u : Int) (h0 : 0 ≤ u) (h1 : u < 18446744073709551616) (n : Nat) (hn : n < (numBytes u).length) : (firstOf ((numBytes u).take n)).2.2 = 10 := by
  have hs := numBytes_size u
  by_cases h0' : n = 0
  · subst h0'; rfl
  unfold firstOf
  rw [if_neg (by rw [List.length_take]; omega)]
  have hlen : ((numBytes u).take n).length = n := by rw [List.length_take]; omega
  by_cases hu : u ≤ 247
  · unfold sizeN at hs; rw [if_pos hu] at hs; omega
  · have hk := kOf_bounds u (by omega) h1
    have hk8 : kOf u ≤ 8 := by unfold kOf; have := (bitLen_bounds u.toNat (by omega) (by omega)); have h64 : Lib.bitLen u.toNat ≤ 64 := bitLen_le u.toNat (by omega); omega
    have hh : ((numBytes u).take n)[0]?.getD 0 = 247 + (kOf u : Int) := by
      rw [List.getElem?_take_of_lt (by omega)]
      unfold numBytes
      rw [if_neg hu]
      simp
    rw [hh, if_neg (by omega), if_pos (by
      rw [hlen]
      unfold sizeN at hs
      rw [if_neg hu] at hs
      omega)]
theorem readN_cut (u most : Int) (h0 : 0 ≤ u) (h1 : u < 18446744073709551616) (n : Nat) (hn : n < (numBytes u).length) : (readN ((numBytes u).take n) 0 most).2.2 = 10 := by
  have h := firstOf_cut u h0 h1 n hn
  unfold readN
  rw [if_neg (by simp), if_pos (by rw [h]; decide)]
  exact h
theorem textN_none (zs : List Int) (hL : zs.length ≤ 2048) (n : Nat) (hn : n < (numBytes zs.length).length) : (textN ((numBytes zs.length).take n) 0 2048).2.2 = 10 := by
  have h := readN_cut (zs.length : Int) 18446744073709551615 (by omega) (by omega) n hn
  unfold textN
  rw [if_pos (by rw [h]; decide)]
  exact h

theorem right_parts {k : Int} {L : Nat} (h : rightF k L = true) : 1 ≤ k ∧ k ≤ 14 ∧ L ≤ 2048 := by unfold rightF at h; exact of_decide_eq_true h
theorem numBytes_one (k : Int) (h : k ≤ 247) : numBytes k = [k] := by unfold numBytes; rw [if_pos h]
theorem nx_head (k : Int) (q : List Int) (hk0 : 1 ≤ k) (hk : k ≤ 14) (hq : IsBytes q) :
    nxA (71 :: k :: q) = (k :: q, 0) ∧ nxK (71 :: k :: q) = (k, q, 0) ∧ nxB (71 :: k :: q) = (q, 0) := by
  have h1 : nxA (71 :: k :: q) = (k :: q, 0) := by
    unfold nxA
    rw [show fixN (71 :: k :: q) 0 1 = _ from fixN_take (71 :: k :: q) 1 (by simp)]
    simp [nx1]
  have h2 : nxK (71 :: k :: q) = (k, q, 0) := by
    unfold nxK
    rw [h1]
    have := readN_numBytes k 14 (by omega) (by omega) hk q hq
    rw [numBytes_one k (by omega)] at this
    exact this
  refine ⟨h1, h2, ?_⟩
  unfold nxB
  rw [h2, if_neg (by dsimp only; omega)]
theorem nxE_bad {c : List Int} (h : (nxT c).2.2 ≠ 0) : nxE c = (nxT c).2.2 := by
  have hf : nxF c = ([], (nxT c).2.1, (nxT c).2.2) := by unfold nxF; exact fixN_bad _ _ _ h
  unfold nxE
  rw [hf, if_neg (fun hh => h hh.1)]

theorem ahead_cons (k : Int) (zs : List Int) (hk : k ≤ 247) : aheadF k zs = 71 :: k :: (numBytes zs.length ++ zs) := by unfold aheadF; rw [numBytes_one k hk]; simp
theorem ahead_length (k : Int) (zs : List Int) (hk : k ≤ 247) : (aheadF k zs).length = 2 + sizeN zs.length + zs.length := by rw [ahead_cons k zs hk]; simp [numBytes_size]; omega
theorem sizeN_3 (n : Int) (h0 : 0 ≤ n) (h1 : n ≤ 2048) : 1 ≤ sizeN n ∧ sizeN n ≤ 3 := by
  unfold sizeN
  split
  · omega
  · have hb := kOf_bounds n (by omega) (by omega)
    have hk : kOf n ≤ 2 := by
      refine Nat.le_of_not_lt fun h => ?_
      have := pow_le 16 (8 * (kOf n - 1)) (by omega)
      have h16 : (2 : Int) ^ 16 = 65536 := by decide
      rw [h16] at this
      omega
    omega
theorem ahead_le (k : Int) (zs : List Int) (h : rightF k zs.length = true) : (aheadF k zs).length ≤ 2053 := by
  obtain ⟨h0, h1, h2⟩ := right_parts h
  rw [ahead_length k zs (by omega)]
  have := sizeN_3 zs.length (by omega) (by omega)
  omega
theorem sumF_length (zs : List Int) : (sumF zs).length = 8 := sumK_length _ _
theorem frame_length (k : Int) (zs : List Int) (h : rightF k zs.length = true) : ((frameF k zs).length : Int) = costF zs.length := by
  obtain ⟨h0, h1, h2⟩ := right_parts h
  unfold frameF costF
  rw [List.length_append, sumF_length, ahead_length k zs (by omega), if_pos (by omega)]
  omega
theorem ahead_bytes (k : Int) (zs : List Int) (hz : IsBytes zs) (h : rightF k zs.length = true) : IsBytes (aheadF k zs) := by
  obtain ⟨h0, h1, h2⟩ := right_parts h
  unfold aheadF
  exact (((IsBytes.one (by omega) (by omega)).append (numBytes_bytes k (by omega) (by omega))).append (numBytes_bytes _ (by omega) (by omega))).append hz
theorem sumF_bytes (zs : List Int) : IsBytes (sumF zs) := sumK_bytes _ _
theorem frame_bytes (k : Int) (zs : List Int) (hz : IsBytes zs) (h : rightF k zs.length = true) : IsBytes (frameF k zs) := (ahead_bytes k zs hz h).append (sumF_bytes _)

theorem nx_tail (k : Int) (zs t : List Int) (hz : IsBytes zs) (ht : IsBytes t) (h : rightF k zs.length = true) :
    nxK (aheadF k zs ++ t) = (k, numBytes zs.length ++ (zs ++ t), 0) ∧ nxT (aheadF k zs ++ t) = (zs, t, 0) ∧ nxH (aheadF k zs ++ t) = aheadF k zs ∧
      nxE (aheadF k zs ++ t) = if t.length < 8 then 10 else if t.take 8 = sumF (aheadF k zs) then 0 else 14 := by
  obtain ⟨h0, h1, h2⟩ := right_parts h
  have e : aheadF k zs ++ t = 71 :: k :: (numBytes zs.length ++ (zs ++ t)) := by rw [ahead_cons k zs (by omega)]; simp
  obtain ⟨ha, hk, hb⟩ := nx_head k (numBytes zs.length ++ (zs ++ t)) h0 h1 ((numBytes_bytes _ (by omega) (by omega)).append (hz.append ht))
  rw [← e] at ha hk hb
  have hT : nxT (aheadF k zs ++ t) = (zs, t, 0) := by unfold nxT; rw [hb]; exact textN_tail zs t h2 hz ht
  have hH : nxH (aheadF k zs ++ t) = aheadF k zs := by
    unfold nxH
    rw [hT]
    rw [List.length_append, Nat.add_sub_cancel]
    simp
  refine ⟨hk, hT, hH, ?_⟩
  by_cases hl : t.length < 8
  · have hF : nxF (aheadF k zs ++ t) = ([], [], 10) := by unfold nxF; rw [hT]; exact fixN_short t 8 hl
    unfold nxE
    rw [hF, if_pos hl, if_neg (fun hh => absurd hh.1 (by decide))]
  · have hF : nxF (aheadF k zs ++ t) = (t.take 8, t.drop 8, 0) := by unfold nxF; rw [hT]; exact fixN_take t 8 (by omega)
    unfold nxE
    rw [hF, hH, if_neg hl]
    by_cases hs : t.take 8 = sumF (aheadF k zs)
    · rw [if_pos hs, if_neg (fun hh => hh.2 hs)]
    · rw [if_neg hs, if_pos ⟨rfl, hs⟩]

theorem next_tail (k : Int) (zs t : List Int) (hz : IsBytes zs) (ht : IsBytes t) (h : rightF k zs.length = true) :
    nextF (aheadF k zs ++ t) = if t.length < 8 then (0, [], 0, 10) else if t.take 8 = sumF (aheadF k zs) then (k, zs, ((frameF k zs).length : Int), 0) else (0, [], 0, 14) := by
  have hle := ahead_le k zs h
  have hc : (aheadF k zs ++ t).take 2061 = aheadF k zs ++ t.take (2061 - (aheadF k zs).length) := by
    rw [List.take_append, List.take_of_length_le (by omega)]
  obtain ⟨hk, hT, hH, hE⟩ := nx_tail k zs (t.take (2061 - (aheadF k zs).length)) hz (ht.take _) h
  have h8 : (t.take (2061 - (aheadF k zs).length)).length < 8 ↔ t.length < 8 := by rw [List.length_take]; omega
  have ht8 : (t.take (2061 - (aheadF k zs).length)).take 8 = t.take 8 := by rw [List.take_take, Nat.min_eq_left (by omega)]
  rw [ht8] at hE
  simp only [h8] at hE
  by_cases hl : t.length < 8
  · rw [if_pos hl] at hE ⊢
    exact next_err hc hE (by decide)
  · rw [if_neg hl] at hE ⊢
    by_cases hs : t.take 8 = sumF (aheadF k zs)
    · rw [if_pos hs] at hE ⊢
      rw [next_ok hc hE, hk, hT, hH]
      unfold frameF
      rw [List.length_append, sumF_length]
      simp
    · rw [if_neg hs] at hE ⊢
      exact next_err hc hE (by decide)
theorem next_cut (k : Int) (zs : List Int) (n : Nat) (hz : IsBytes zs) (h : rightF k zs.length = true) (hn : n < (aheadF k zs).length) : (nextF ((aheadF k zs).take n)).2.2.2 = 10 := by
  obtain ⟨h0, h1, h2⟩ := right_parts h
  have hle := ahead_le k zs h
  have hc : ((aheadF k zs).take n).take 2061 = (aheadF k zs).take n := List.take_of_length_le (by rw [List.length_take]; omega)
  suffices hE : nxE ((aheadF k zs).take n) = 10 by rw [next_err hc hE (by decide)]
  suffices hT : (nxT ((aheadF k zs).take n)).2.2 = 10 by rw [nxE_bad (by rw [hT]; decide), hT]
  have e := ahead_cons k zs (by omega)
  have hlen := ahead_length k zs (by omega)
  rw [e]
  rcases n with _ | _ | n
  · rfl
  · rfl
  · have hq : IsBytes ((numBytes zs.length ++ zs).take n) := ((numBytes_bytes _ (by omega) (by omega)).append hz).take n
    obtain ⟨ha, hk, hb⟩ := nx_head k ((numBytes zs.length ++ zs).take n) h0 h1 hq
    show (nxT (71 :: k :: (numBytes zs.length ++ zs).take n)).2.2 = 10
    unfold nxT
    rw [hb]
    have hs := numBytes_size (zs.length : Int)
    by_cases hm : n < (numBytes zs.length).length
    · rw [List.take_append_of_le_length (by omega)]
      exact textN_none zs h2 n hm
    · rw [List.take_append, List.take_of_length_le (by omega)]
      exact textN_cut zs _ h2 (hz.take _) (by rw [List.length_take]; omega)

theorem next_frame (k : Int) (zs t : List Int) (hz : IsBytes zs) (ht : IsBytes t) (h : rightF k zs.length = true) : nextF (frameF k zs ++ t) = (k, zs, ((frameF k zs).length : Int), 0) := by
  unfold frameF
  rw [List.append_assoc, next_tail k zs _ hz ((sumF_bytes _).append ht) h, if_neg (by rw [List.length_append, sumF_length]; omega), if_pos (by rw [List.take_append_of_le_length (by rw [sumF_length]; omega), List.take_of_length_le (by rw [sumF_length]; omega)])]
  rfl
theorem read_frame (k : Int) (zs : List Int) (hz : IsBytes zs) (h : rightF k zs.length = true) : readF (frameF k zs) = (k, zs, 0) := by
  have hn := next_frame k zs [] hz (IsBytes.of fun z hz => by cases hz) h
  rw [List.append_nil] at hn
  unfold readF
  rw [hn, if_pos rfl, if_neg (by dsimp only; omega)]
theorem read_more (k : Int) (zs t : List Int) (hz : IsBytes zs) (ht : IsBytes t) (h : rightF k zs.length = true) (hne : t ≠ []) : (readF (frameF k zs ++ t)).2.2 = 13 := by
  have : 0 < t.length := by cases t with | nil => exact absurd rfl hne | cons _ _ => simp
  unfold readF
  rw [next_frame k zs t hz ht h, if_pos rfl, if_pos (by dsimp only; rw [List.length_append]; omega)]
theorem readF_bad {zs : List Int} {e : Int} (h : (nextF zs).2.2.2 = e) (he : e ≠ 0) : (readF zs).2.2 = e := by unfold readF; rw [if_neg (by rw [h]; exact he)]; exact h
theorem read_cut (k : Int) (zs : List Int) (n : Nat) (hz : IsBytes zs) (h : rightF k zs.length = true) (hn : n < (frameF k zs).length) : (readF ((frameF k zs).take n)).2.2 = 10 := by
  refine readF_bad ?_ (by decide)
  unfold frameF at hn ⊢
  rw [List.length_append, sumF_length] at hn
  by_cases hm : n < (aheadF k zs).length
  · rw [List.take_append_of_le_length (by omega)]
    exact next_cut k zs n hz h hm
  · rw [List.take_append, List.take_of_length_le (by omega), next_tail k zs _ hz ((sumF_bytes _).take _) h, if_pos (by rw [List.length_take, sumF_length]; omega)]
theorem xor8_eq (a x : Int) (ha : 0 ≤ a ∧ a < 256) (hx : 0 ≤ x ∧ x < 256) : bits .xor .u8 a x = a ↔ x = 0 := by
  have hA : (BitVec.ofInt 8 a).toNat = a.toNat := by rw [BitVec.toNat_ofInt]; omega
  have hX : (BitVec.ofInt 8 x).toNat = x.toNat := by rw [BitVec.toNat_ofInt]; omega
  have hB : bits .xor .u8 a x = ((BitVec.ofInt 8 a ^^^ BitVec.ofInt 8 x).toNat : Int) := by
    unfold bits
    show IntKind.u8.wrap (((BitVec.ofInt 8 a ^^^ BitVec.ofInt 8 x).toNat : Nat) : Int) = _
    have h8 := (BitVec.ofInt 8 a ^^^ BitVec.ofInt 8 x).isLt
    generalize (BitVec.ofInt 8 a ^^^ BitVec.ofInt 8 x).toNat = m at h8
    rw [IntKind.wrap_u8]
    omega
  rw [hB]
  constructor
  · intro h
    have e : BitVec.ofInt 8 a ^^^ BitVec.ofInt 8 x = BitVec.ofInt 8 a := BitVec.eq_of_toNat_eq (by rw [hA]; omega)
    have e2 : BitVec.ofInt 8 x = 0#8 := by
      have e3 := congrArg (fun z => BitVec.ofInt 8 a ^^^ z) e
      simp only [← BitVec.xor_assoc, BitVec.xor_self, BitVec.zero_xor] at e3
      exact e3
    have e4 := congrArg BitVec.toNat e2
    rw [hX] at e4
    simp at e4
    omega
  · rintro rfl
    rw [show BitVec.ofInt 8 0 = 0#8 from rfl, BitVec.xor_zero, hA]
    omega
theorem turn_sum (k : Int) (zs : List Int) (i : Nat) (x : Int) (hi : i < 8) : turnB (frameF k zs) (((frameF k zs).length : Int) - 1 - i) x = aheadF k zs ++ (sumF (aheadF k zs)).set (7 - i) (bits .xor .u8 ((sumF (aheadF k zs))[7 - i]?.getD 0) x) := by
  have h8 := sumF_length (aheadF k zs)
  have hl : (frameF k zs).length = (aheadF k zs).length + 8 := by unfold frameF; rw [List.length_append, h8]
  unfold turnB
  rw [if_pos (by omega), show (((frameF k zs).length : Int) - 1 - i).toNat = (aheadF k zs).length + (7 - i) from by omega]
  unfold frameF
  rw [List.set_append_right _ _ (by omega), List.getElem?_append_right (by omega), Nat.add_sub_cancel_left]
theorem read_turn (k : Int) (zs : List Int) (i : Nat) (x : Int) (hz : IsBytes zs) (h : rightF k zs.length = true) (hi : i < 8) (hx : 0 ≤ x ∧ x < 256) :
    (readF (turnB (frameF k zs) (((frameF k zs).length : Int) - 1 - i) x)).2.2 = if x = 0 then 0 else 14 := by
  have h8 := sumF_length (aheadF k zs)
  have hb := sumF_bytes (aheadF k zs)
  have hx8 := xor8_eq ((sumF (aheadF k zs))[7 - i]?.getD 0) x (hb _) hx
  have hT := turnB_bytes (frame_bytes k zs hz h) (((frameF k zs).length : Int) - 1 - i) x
  rw [turn_sum k zs i x hi] at hT ⊢
  by_cases h0 : x = 0
  · rw [if_pos h0, hx8.2 h0]
    have : (sumF (aheadF k zs)).set (7 - i) ((sumF (aheadF k zs))[7 - i]?.getD 0) = sumF (aheadF k zs) := by
      rw [List.getElem?_eq_getElem (by omega), Option.getD_some, List.set_getElem_self]
    rw [this]
    have := read_frame k zs hz h
    unfold frameF at this
    rw [this]
  · rw [if_neg h0]
    refine readF_bad ?_ (by decide)
    have hbt : IsBytes ((sumF (aheadF k zs)).set (7 - i) (bits .xor .u8 ((sumF (aheadF k zs))[7 - i]?.getD 0) x)) := by
      have := hT.drop (aheadF k zs).length
      simpa using this
    rw [next_tail k zs _ hz hbt h, if_neg (by rw [List.length_set]; omega), List.take_of_length_le (by rw [List.length_set]; omega), if_neg ?_]
    intro e
    have e2 := congrArg (fun l => l[7 - i]?.getD 0) e
    simp only [List.getElem?_set, h8] at e2
    rw [if_pos trivial, if_pos (by omega)] at e2
    exact h0 (hx8.1 e2)

end Go.Proofs.Ytmgmghlflldepaa
