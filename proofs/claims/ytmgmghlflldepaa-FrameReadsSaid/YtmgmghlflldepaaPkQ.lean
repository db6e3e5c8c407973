/-
  Layer 19: plain: what next finds in a frame's bytes, in a part of them, in bytes whose sum is turned. Conditions: bytes; a right frame.
  Layer 19: frames one behind the other, plain; the statements' own `all` as rows. Conditions: bytes; right frames; at most a million bytes.
  Layer 19: the statements' own first. No condition.
-/
import Derived.Test.YtmgmghlflldepaaFrF
import Derived.Test.YtmgmghlflldepaaFrE
import Derived.Test.YtmgmghlflldepaaFrH
import Derived.Test.YtmgmghlflldepaaVals
import Derived.Lib.SlBytesConst
namespace Go.Proofs.Ytmgmghlflldepaa
open Go.RowKit

theorem fixN_take (zs : List Int) (n : Nat) (h : n ≤ zs.length) : fixN zs 0 (n : Int) = (zs.take n, zs.drop n, 0) := by
  unfold fixN
  rw [if_neg (by simp), if_neg (by omega), if_neg (by omega)]
  simp
theorem fixN_short (zs : List Int) (n : Nat) (h : zs.length < n) : fixN zs 0 (n : Int) = ([], [], 10) := by
  unfold fixN
  rw [if_neg (by simp), if_neg (by omega), if_pos (by omega)]
theorem fixN_bad (zs : List Int) (e n : Int) (h : e ≠ 0) : fixN zs e n = ([], zs, e) := by unfold fixN; rw [if_pos h]
theorem textN_tail (zs t : List Int) (hL : zs.length ≤ 2048) (hz : IsBytes zs) (ht : IsBytes t) : textN (numBytes zs.length ++ (zs ++ t)) 0 2048 = (zs, t, 0) := by
  unfold textN
  rw [readN_numBytes (zs.length : Int) 18446744073709551615 (by omega) (by omega) (by omega) (zs ++ t) (hz.append ht)]
  dsimp only
  rw [if_neg (by simp), if_neg (by omega), fixN_take _ _ (by simp)]
  simp
theorem textN_cut (zs r : List Int) (hL : zs.length ≤ 2048) (hr : IsBytes r) (hlt : r.length < zs.length) : (textN (numBytes zs.length ++ r) 0 2048).2.2 = 10 := by
  unfold textN
  rw [readN_numBytes (zs.length : Int) 18446744073709551615 (by omega) (by omega) (by omega) r hr]
  dsimp only
  rw [if_neg (by simp), if_neg (by omega), fixN_short _ _ hlt]
theorem firstOf_cut (u : Int) (h0 : 0 ≤ u) (h1 : u < 18446744073709551616) (n : Nat) (hn : n < (numBytes u).length) : (firstOf ((numBytes u).take n)).2.2 = 10 := by
  have hs := numBytes_size u
  by_cases h0' : n = 0
  · subst h0'; rfl
  unfold firstOf
  rw [if_neg (by rw [List.length_take]; omega)]
  have hlen : ((numBytes u).take n).length = n := by rw [List.length_take]; omega
  by_cases hu : u ≤ 247
  · unfold sizeN at hs; rw [if_pos hu] at hs; omega
  · have hk := kOf_bounds u (by omega) h1
    have hk8 : kOf u ≤ 8 := by unfold kOf; have := (bitLen_bounds u.toNat (by omega) (by omega)); have h64 : Lib.bitLen u.toNat ≤ 64 := bitLen_le u.toNat (by omega); omega
    have hh : ((numBytes u).take n)[0]?.getD 0 = 247 + (kOf u : Int) := by
      rw [List.getElem?_take_of_lt (by omega)]
      unfold numBytes
      rw [if_neg hu]
      simp
    rw [hh, if_neg (by omega), if_pos (by
      rw [hlen]
      unfold sizeN at hs
      rw [if_neg hu] at hs
      omega)]
theorem readN_cut (u most : Int) (h0 : 0 ≤ u) (h1 : u < 18446744073709551616) (n : Nat) (hn : n < (numBytes u).length) : (readN ((numBytes u).take n) 0 most).2.2 = 10 := by
  have h := firstOf_cut u h0 h1 n hn
  unfold readN
  rw [if_neg (by simp), if_pos (by rw [h]; decide)]
  exact h
theorem textN_none (zs : List Int) (hL : zs.length ≤ 2048) (n : Nat) (hn : n < (numBytes zs.length).length) : (textN ((numBytes zs.length).take n) 0 2048).2.2 = 10 := by
  have h := readN_cut (zs.length : Int) 18446744073709551615 (by omega) (by omega) n hn
  unfold textN
  rw [if_pos (by rw [h]; decide)]
  exact h

theorem right_parts {k : Int} {L : Nat} (h : rightF k L = true) : 1 ≤ k ∧ k ≤ 14 ∧ L ≤ 2048 := by unfold rightF at h; exact of_decide_eq_true h
theorem numBytes_one (k : Int) (h : k ≤ 247) : numBytes k = [k] := by unfold numBytes; rw [if_pos h]
theorem nx_head (k : Int) (q : List Int) (hk0 : 1 ≤ k) (hk : k ≤ 14) (hq : IsBytes q) :
    nxA (71 :: k :: q) = (k :: q, 0) ∧ nxK (71 :: k :: q) = (k, q, 0) ∧ nxB (71 :: k :: q) = (q, 0) := by
  have h1 : nxA (71 :: k :: q) = (k :: q, 0) := by
    unfold nxA
    rw [show fixN (71 :: k :: q) 0 1 = _ from fixN_take (71 :: k :: q) 1 (by simp)]
    simp [nx1]
  have h2 : nxK (71 :: k :: q) = (k, q, 0) := by
    unfold nxK
    rw [h1]
    have := readN_numBytes k 14 (by omega) (by omega) hk q hq
    rw [numBytes_one k (by omega)] at this
    exact this
  refine ⟨h1, h2, ?_⟩
  unfold nxB
  rw [h2, if_neg (by dsimp only; omega)]
theorem nxE_bad {c : List Int} (h : (nxT c).2.2 ≠ 0) : nxE c = (nxT c).2.2 := by
  have hf : nxF c = ([], (nxT c).2.1, (nxT c).2.2) := by unfold nxF; exact fixN_bad _ _ _ h
  unfold nxE
  rw [hf, if_neg (fun hh => h hh.1)]

theorem ahead_cons (k : Int) (zs : List Int) (hk : k ≤ 247) : aheadF k zs = 71 :: k :: (numBytes zs.length ++ zs) := by unfold aheadF; rw [numBytes_one k hk]; simp
theorem ahead_length (k : Int) (zs : List Int) (hk : k ≤ 247) : (aheadF k zs).length = 2 + sizeN zs.length + zs.length := by rw [ahead_cons k zs hk]; simp [numBytes_size]; omega
theorem sizeN_3 (n : Int) (h0 : 0 ≤ n) (h1 : n ≤ 2048) : 1 ≤ sizeN n ∧ sizeN n ≤ 3 := by
  unfold sizeN
  split
  · omega
  · have hb := kOf_bounds n (by omega) (by omega)
    have hk : kOf n ≤ 2 := by
      refine Nat.le_of_not_lt fun h => ?_
      have := pow_le 16 (8 * (kOf n - 1)) (by omega)
      have h16 : (2 : Int) ^ 16 = 65536 := by decide
      rw [h16] at this
      omega
    omega
theorem ahead_le (k : Int) (zs : List Int) (h : rightF k zs.length = true) : (aheadF k zs).length ≤ 2053 := by
  obtain ⟨h0, h1, h2⟩ := right_parts h
  rw [ahead_length k zs (by omega)]
  have := sizeN_3 zs.length (by omega) (by omega)
  omega
theorem sumF_length (zs : List Int) : (sumF zs).length = 8 := sumK_length _ _
theorem frame_length (k : Int) (zs : List Int) (h : rightF k zs.length = true) : ((frameF k zs).length : Int) = costF zs.length := by
  obtain ⟨h0, h1, h2⟩ := right_parts h
  unfold frameF costF
  rw [List.length_append, sumF_length, ahead_length k zs (by omega), if_pos (by omega)]
  omega
theorem ahead_bytes (k : Int) (zs : List Int) (hz : IsBytes zs) (h : rightF k zs.length = true) : IsBytes (aheadF k zs) := by
  obtain ⟨h0, h1, h2⟩ := right_parts h
  unfold aheadF
  exact (((IsBytes.one (by omega) (by omega)).append (numBytes_bytes k (by omega) (by omega))).append (numBytes_bytes _ (by omega) (by omega))).append hz
theorem sumF_bytes (zs : List Int) : IsBytes (sumF zs) := sumK_bytes _ _
theorem frame_bytes (k : Int) (zs : List Int) (hz : IsBytes zs) (h : rightF k zs.length = true) : IsBytes (frameF k zs) := (ahead_bytes k zs hz h).append (sumF_bytes _)

theorem nx_tail (k : Int) (zs t : List Int) (hz : IsBytes zs) (ht : IsBytes t) (h : rightF k zs.length = true) :
    nxK (aheadF k zs ++ t) = (k, numBytes zs.length ++ (zs ++ t), 0) ∧ nxT (aheadF k zs ++ t) = (zs, t, 0) ∧ nxH (aheadF k zs ++ t) = aheadF k zs ∧
      nxE (aheadF k zs ++ t) = if t.length < 8 then 10 else if t.take 8 = sumF (aheadF k zs) then 0 else 14 := by
  obtain ⟨h0, h1, h2⟩ := right_parts h
  have e : aheadF k zs ++ t = 71 :: k :: (numBytes zs.length ++ (zs ++ t)) := by rw [ahead_cons k zs (by omega)]; simp
  obtain ⟨ha, hk, hb⟩ := nx_head k (numBytes zs.length ++ (zs ++ t)) h0 h1 ((numBytes_bytes _ (by omega) (by omega)).append (hz.append ht))
  rw [← e] at ha hk hb
  have hT : nxT (aheadF k zs ++ t) = (zs, t, 0) := by unfold nxT; rw [hb]; exact textN_tail zs t h2 hz ht
  have hH : nxH (aheadF k zs ++ t) = aheadF k zs := by
    unfold nxH
    rw [hT]
    rw [List.length_append, Nat.add_sub_cancel]
    simp
  refine ⟨hk, hT, hH, ?_⟩
  by_cases hl : t.length < 8
  · have hF : nxF (aheadF k zs ++ t) = ([], [], 10) := by unfold nxF; rw [hT]; exact fixN_short t 8 hl
    unfold nxE
    rw [hF, if_pos hl, if_neg (fun hh => absurd hh.1 (by decide))]
  · have hF : nxF (aheadF k zs ++ t) = (t.take 8, t.drop 8, 0) := by unfold nxF; rw [hT]; exact fixN_take t 8 (by omega)
    unfold nxE
    rw [hF, hH, if_neg hl]
    by_cases hs : t.take 8 = sumF (aheadF k zs)
    · rw [if_pos hs, if_neg (fun hh => hh.2 hs)]
    · rw [if_neg hs, if_pos ⟨rfl, hs⟩]

theorem next_tail (k : Int) (zs t : List Int) (hz : IsBytes zs) (ht : IsBytes t) (h : rightF k zs.length = true) :
    nextF (aheadF k zs ++ t) = if t.length < 8 then (0, [], 0, 10) else if t.take 8 = sumF (aheadF k zs) then (k, zs, ((frameF k zs).length : Int), 0) else (0, [], 0, 14) := by
  have hle := ahead_le k zs h
  have hc : (aheadF k zs ++ t).take 2061 = aheadF k zs ++ t.take (2061 - (aheadF k zs).length) := by
    rw [List.take_append, List.take_of_length_le (by omega)]
  obtain ⟨hk, hT, hH, hE⟩ := nx_tail k zs (t.take (2061 - (aheadF k zs).length)) hz (ht.take _) h
  have h8 : (t.take (2061 - (aheadF k zs).length)).length < 8 ↔ t.length < 8 := by rw [List.length_take]; omega
  have ht8 : (t.take (2061 - (aheadF k zs).length)).take 8 = t.take 8 := by rw [List.take_take, Nat.min_eq_left (by omega)]
  rw [ht8] at hE
  simp only [h8] at hE
  by_cases hl : t.length < 8
  · rw [if_pos hl] at hE ⊢
    exact next_err hc hE (by decide)
  · rw [if_neg hl] at hE ⊢
    by_cases hs : t.take 8 = sumF (aheadF k zs)
    · rw [if_pos hs] at hE ⊢
      rw [next_ok hc hE, hk, hT, hH]
      unfold frameF
      rw [List.length_append, sumF_length]
      simp
    · rw [if_neg hs] at hE ⊢
      exact next_err hc hE (by decide)
theorem next_cut (k : Int) (zs : List Int) (n : Nat) (hz : IsBytes zs) (h : rightF k zs.length = true) (hn : n < (aheadF k zs).length) : (nextF ((aheadF k zs).take n)).2.2.2 = 10 := by
  obtain ⟨h0, h1, h2⟩ := right_parts h
  have hle := ahead_le k zs h
  have hc : ((aheadF k zs).take n).take 2061 = (aheadF k zs).take n := List.take_of_length_le (by rw [List.length_take]; omega)
  suffices hE : nxE ((aheadF k zs).take n) = 10 by rw [next_err hc hE (by decide)]
  suffices hT : (nxT ((aheadF k zs).take n)).2.2 = 10 by rw [nxE_bad (by rw [hT]; decide), hT]
  have e := ahead_cons k zs (by omega)
  have hlen := ahead_length k zs (by omega)
  rw [e]
  rcases n with _ | _ | n
  · rfl
  · rfl
  · have hq : IsBytes ((numBytes zs.length ++ zs).take n) := ((numBytes_bytes _ (by omega) (by omega)).append hz).take n
    obtain ⟨ha, hk, hb⟩ := nx_head k ((numBytes zs.length ++ zs).take n) h0 h1 hq
    show (nxT (71 :: k :: (numBytes zs.length ++ zs).take n)).2.2 = 10
    unfold nxT
    rw [hb]
    have hs := numBytes_size (zs.length : Int)
    by_cases hm : n < (numBytes zs.length).length
    · rw [List.take_append_of_le_length (by omega)]
      exact textN_none zs h2 n hm
    · rw [List.take_append, List.take_of_length_le (by omega)]
      exact textN_cut zs _ h2 (hz.take _) (by rw [List.length_take]; omega)

theorem next_frame (k : Int) (zs t : List Int) (hz : IsBytes zs) (ht : IsBytes t) (h : rightF k zs.length = true) : nextF (frameF k zs ++ t) = (k, zs, ((frameF k zs).length : Int), 0) := by
  unfold frameF
  rw [List.append_assoc, next_tail k zs _ hz ((sumF_bytes _).append ht) h, if_neg (by rw [List.length_append, sumF_length]; omega), if_pos (by rw [List.take_append_of_le_length (by rw [sumF_length]; omega), List.take_of_length_le (by rw [sumF_length]; omega)])]
  rfl
theorem read_frame (k : Int) (zs : List Int) (hz : IsBytes zs) (h : rightF k zs.length = true) : readF (frameF k zs) = (k, zs, 0) := by
  have hn := next_frame k zs [] hz (IsBytes.of fun z hz => by cases hz) h
  rw [List.append_nil] at hn
  unfold readF
  rw [hn, if_pos rfl, if_neg (by dsimp only; omega)]
theorem read_more (k : Int) (zs t : List Int) (hz : IsBytes zs) (ht : IsBytes t) (h : rightF k zs.length = true) (hne : t ≠ []) : (readF (frameF k zs ++ t)).2.2 = 13 := by
  have : 0 < t.length := by cases t with | nil => exact absurd rfl hne | cons _ _ => simp
  unfold readF
  rw [next_frame k zs t hz ht h, if_pos rfl, if_pos (by dsimp only; rw [List.length_append]; omega)]
theorem readF_bad {zs : List Int} {e : Int} (h : (nextF zs).2.2.2 = e) (he : e ≠ 0) : (readF zs).2.2 = e := by unfold readF; rw [if_neg (by rw [h]; exact he)]; exact h
theorem read_cut (k : Int) (zs : List Int) (n : Nat) (hz : IsBytes zs) (h : rightF k zs.length = true) (hn : n < (frameF k zs).length) : (readF ((frameF k zs).take n)).2.2 = 10 := by
  refine readF_bad ?_ (by decide)
  unfold frameF at hn ⊢
  rw [List.length_append, sumF_length] at hn
  by_cases hm : n < (aheadF k zs).length
  · rw [List.take_append_of_le_length (by omega)]
    exact next_cut k zs n hz h hm
  · rw [List.take_append, List.take_of_length_le (by omega), next_tail k zs _ hz ((sumF_bytes _).take _) h, if_pos (by rw [List.length_take, sumF_length]; omega)]
theorem xor8_eq (a x : Int) (ha : 0 ≤ a ∧ a < 256) (hx : 0 ≤ x ∧ x < 256) : bits .xor .u8 a x = a ↔ x = 0 := by
  have hA : (BitVec.ofInt 8 a).toNat = a.toNat := by rw [BitVec.toNat_ofInt]; omega
  have hX : (BitVec.ofInt 8 x).toNat = x.toNat := by rw [BitVec.toNat_ofInt]; omega
  have hB : bits .xor .u8 a x = ((BitVec.ofInt 8 a ^^^ BitVec.ofInt 8 x).toNat : Int) := by
    unfold bits
    show IntKind.u8.wrap (((BitVec.ofInt 8 a ^^^ BitVec.ofInt 8 x).toNat : Nat) : Int) = _
    have h8 := (BitVec.ofInt 8 a ^^^ BitVec.ofInt 8 x).isLt
    generalize (BitVec.ofInt 8 a ^^^ BitVec.ofInt 8 x).toNat = m at h8
    rw [IntKind.wrap_u8]
    omega
  rw [hB]
  constructor
  · intro h
    have e : BitVec.ofInt 8 a ^^^ BitVec.ofInt 8 x = BitVec.ofInt 8 a := BitVec.eq_of_toNat_eq (by rw [hA]; omega)
    have e2 : BitVec.ofInt 8 x = 0#8 := by
      have e3 := congrArg (fun z => BitVec.ofInt 8 a ^^^ z) e
      simp only [← BitVec.xor_assoc, BitVec.xor_self, BitVec.zero_xor] at e3
      exact e3
    have e4 := congrArg BitVec.toNat e2
    rw [hX] at e4
    simp at e4
    omega
  · rintro rfl
    rw [show BitVec.ofInt 8 0 = 0#8 from rfl, BitVec.xor_zero, hA]
    omega
theorem turn_sum (k : Int) (zs : List Int) (i : Nat) (x : Int) (hi : i < 8) : turnB (frameF k zs) (((frameF k zs).length : Int) - 1 - i) x = aheadF k zs ++ (sumF (aheadF k zs)).set (7 - i) (bits .xor .u8 ((sumF (aheadF k zs))[7 - i]?.getD 0) x) := by
  have h8 := sumF_length (aheadF k zs)
  have hl : (frameF k zs).length = (aheadF k zs).length + 8 := by unfold frameF; rw [List.length_append, h8]
  unfold turnB
  rw [if_pos (by omega), show (((frameF k zs).length : Int) - 1 - i).toNat = (aheadF k zs).length + (7 - i) from by omega]
  unfold frameF
  rw [List.set_append_right _ _ (by omega), List.getElem?_append_right (by omega), Nat.add_sub_cancel_left]
theorem read_turn (k : Int) (zs : List Int) (i : Nat) (x : Int) (hz : IsBytes zs) (h : rightF k zs.length = true) (hi : i < 8) (hx : 0 ≤ x ∧ x < 256) :
    (readF (turnB (frameF k zs) (((frameF k zs).length : Int) - 1 - i) x)).2.2 = if x = 0 then 0 else 14 := by
  have h8 := sumF_length (aheadF k zs)
  have hb := sumF_bytes (aheadF k zs)
  have hx8 := xor8_eq ((sumF (aheadF k zs))[7 - i]?.getD 0) x (hb _) hx
  have hT := turnB_bytes (frame_bytes k zs hz h) (((frameF k zs).length : Int) - 1 - i) x
  rw [turn_sum k zs i x hi] at hT ⊢
  by_cases h0 : x = 0
  · rw [if_pos h0, hx8.2 h0]
    have : (sumF (aheadF k zs)).set (7 - i) ((sumF (aheadF k zs))[7 - i]?.getD 0) = sumF (aheadF k zs) := by
      rw [List.getElem?_eq_getElem (by omega), Option.getD_some, List.set_getElem_self]
    rw [this]
    have := read_frame k zs hz h
    unfold frameF at this
    rw [this]
  · rw [if_neg h0]
    refine readF_bad ?_ (by decide)
    have hbt : IsBytes ((sumF (aheadF k zs)).set (7 - i) (bits .xor .u8 ((sumF (aheadF k zs))[7 - i]?.getD 0) x)) := by
      have := hT.drop (aheadF k zs).length
      simpa using this
    rw [next_tail k zs _ hz hbt h, if_neg (by rw [List.length_set]; omega), List.take_of_length_le (by rw [List.length_set]; omega), if_neg ?_]
    intro e
    have e2 := congrArg (fun l => l[7 - i]?.getD 0) e
    simp only [List.getElem?_set, h8] at e2
    rw [if_pos trivial, if_pos (by omega)] at e2
    exact h0 (hx8.1 e2)

end Go.Proofs.Ytmgmghlflldepaa

namespace Go.Proofs.Ytmgmghlflldepaa
open Go.RowKit Go.Shelf

abbrev FrK := Int × List Int
def RtF (f : FrK) : Prop := rightF f.1 f.2.length = true ∧ IsBytes f.2
def joinF (fs : List FrK) : List Int := fs.flatMap fun f => frameF f.1 f.2
theorem joinF_nil : joinF [] = [] := rfl
theorem joinF_cons (f : FrK) (r : List FrK) : joinF (f :: r) = frameF f.1 f.2 ++ joinF r := by simp [joinF]
theorem joinF_append (a b : List FrK) : joinF (a ++ b) = joinF a ++ joinF b := by simp [joinF]
theorem joinF_bytes : ∀ fs : List FrK, (∀ f ∈ fs, RtF f) → IsBytes (joinF fs)
  | [], _ => IsBytes.of fun z hz => by cases hz
  | f :: r, h => by
    rw [joinF_cons]
    have hf := h f (by simp)
    exact (frame_bytes f.1 f.2 hf.2 hf.1).append (joinF_bytes r (fun g hg => h g (by simp [hg])))
theorem next_nil : (nextF []).2.2.2 = 10 := rfl
theorem next_join {f : FrK} {r : List FrK} (h : ∀ g ∈ f :: r, RtF g) : nextF (joinF (f :: r)) = (f.1, f.2, ((frameF f.1 f.2).length : Int), 0) := by
  rw [joinF_cons]
  have hf := h f (by simp)
  exact next_frame f.1 f.2 _ hf.2 (joinF_bytes r (fun g hg => h g (by simp [hg]))) hf.1
theorem drop_join (fs : List FrK) (j : Nat) : (joinF fs).drop (joinF (fs.take j)).length = joinF (fs.drop j) := by
  have e : joinF fs = joinF (fs.take j) ++ joinF (fs.drop j) := by rw [← joinF_append, List.take_append_drop]
  rw [e, List.drop_left]
theorem at_join {fs : List FrK} (h : ∀ g ∈ fs, RtF g) : ∀ j, j ≤ fs.length → atF (joinF fs) j = (joinF (fs.take j)).length
  | 0, _ => rfl
  | j + 1, hj => by
    have ih := at_join h j (by omega)
    have hd := drop_join fs j
    have he : fs.drop j = fs[j] :: fs.drop (j + 1) := List.drop_eq_getElem_cons (by omega)
    have hn : frF (joinF fs) j = (fs[j].1, fs[j].2, ((frameF fs[j].1 fs[j].2).length : Int), 0) := by
      unfold frF
      rw [ih, hd, he]
      exact next_join (fun g hg => h g (List.mem_of_mem_drop (he ▸ hg)))
    rw [atF_succ, hn, ih, List.take_succ_eq_append_getElem (by omega), joinF_append, List.length_append, joinF_cons, joinF_nil, List.append_nil]
    rfl
theorem fr_join {fs : List FrK} (h : ∀ g ∈ fs, RtF g) (j : Nat) (hj : j < fs.length) : frF (joinF fs) j = (fs[j].1, fs[j].2, ((frameF fs[j].1 fs[j].2).length : Int), 0) := by
  have he : fs.drop j = fs[j] :: fs.drop (j + 1) := List.drop_eq_getElem_cons hj
  unfold frF
  rw [at_join h j (by omega), drop_join fs j, he]
  exact next_join (fun g hg => h g (List.mem_of_mem_drop (he ▸ hg)))
theorem ok_join {fs : List FrK} (h : ∀ g ∈ fs, RtF g) (j : Nat) (hj : j < fs.length) : okF (joinF fs) j := by unfold okF; rw [fr_join h j hj]
theorem not_join {fs : List FrK} (h : ∀ g ∈ fs, RtF g) : ¬ okF (joinF fs) fs.length := by
  unfold okF frF
  rw [at_join h fs.length (Nat.le_refl _), drop_join, List.drop_length, joinF_nil, next_nil]
  decide
/-- How many frames are found. -/
theorem found_join {fs : List FrK} (h : ∀ g ∈ fs, RtF g) {xs : List FrE3} {W : World} {m : Int} (hs : SpF (joinF fs) xs W) (hm : (fs.length : Int) < m) (he : xs.length = m.toNat ∨ (xs.length ≤ m.toNat ∧ ¬ okF (joinF fs) xs.length)) : xs.length = fs.length := by
  have h1 : xs.length ≤ fs.length := Nat.le_of_not_lt fun hlt => not_join h (hs.1 fs.length hlt)
  rcases he with he | ⟨-, he⟩
  · omega
  · refine Nat.le_antisymm h1 (Nat.le_of_not_lt fun hlt => he (ok_join h _ hlt))

abbrev zF3 : FrE3 := (0, (0, (none, (0, 0))))
theorem f1_one (x : FrE3) : ∀ u ∈ f1F x, u.oneCell' = true := fun u hu => by rw [List.mem_singleton.1 hu]; rfl
theorem fall_rows (v : Value) (zs : List Int) (m : Int) (w : World) (hv : BySl Nb w v zs) (hbig : zs.length ≤ 1000000) :
    Calls Try.prog 16 #[v, .int .i64 m] w fun e w' => ∃ v1 v2 xs, e = .returned (.tuple #[v1, v2]) ∧ RowsSl f1F zF3 1 w' v1 xs ∧ RowsSl f2F zF3 2 w' v2 xs ∧ SpF zs xs w' ∧ (xs.length = m.toNat ∨ (xs.length ≤ m.toNat ∧ ¬ okF zs xs.length)) ∧ Kp Nb w w' := by
  refine (callsIn_wide.1 (lall_in 3 (Nat.le_refl _) v zs m w hv hbig)).mono fun _ _ ⟨v1, v2, xs, he, ⟨h1, h2⟩, h3, h4, hB⟩ => ?_
  exact ⟨v1, v2, xs, he, rows_owned h3 (fun _ _ => rfl), rows_owned h4 (fun _ _ => rfl), h1, h2, Kp.of_below hB⟩
theorem rows_by {S : Nat → Prop} {w : World} {v : Value} {zs : List Int} (h : BySl S w v zs) : RowsSl bF 0 1 w v zs := by
  rcases h.2 with h | ⟨blk, off, cap, rfl, hc, hm, hb, -⟩
  · exact .inl h
  · refine .inr ⟨blk, off, cap, rfl, hc, hm, fun i hi j u hu => ?_⟩
    have hj : j = 0 := by
      have := (List.getElem?_eq_some_iff.1 hu).1
      simp at this
      omega
    subst hj
    have : u = .int .u8 (zs[i]?.getD 0) := by simpa using hu.symm
    subst this
    rw [Nat.mul_one, Nat.add_zero]
    exact hb i hi

end Go.Proofs.Ytmgmghlflldepaa

namespace Go.Proofs.Ytmgmghlflldepaa
open Go.RowKit Go.Shelf
attribute [local go_sem] Oper.semAt_some

theorem ab_bytes : IsBytes [97, 98] := IsBytes.of fun z hz => by simp at hz; omega
theorem right_ab : rightF 3 2 = true := by decide
theorem frame_ab : (frameF 3 [97, 98]).length = 13 := by
  have h := frame_length 3 [97, 98] right_ab
  have : costF ([97, 98] : List Int).length = 13 := by decide
  omega
theorem frame_zero (k : Int) (zs : List Int) : (frameF k zs)[0]?.getD 0 = 71 := by unfold frameF aheadF; simp
theorem by_ab {W : World} {B : Nat} (h : W.heap[B]? = some (.cells #[.int .u8 97, .int .u8 98] 5 (2, 3))) : BySl Nb W (.slice (some ⟨B, 0, none⟩) 2 2) [97, 98] := by
  refine ⟨ab_bytes, .inr ⟨B, 0, 2, rfl, Nat.le_refl _, by decide, fun i hi => ?_, fun _ h => h⟩⟩
  have hi' : i < 2 := hi
  rw [Nat.zero_add]
  unfold World.cell?
  rw [h]
  rcases i with _ | _ | i
  · rfl
  · rfl
  · omega
theorem turn_ab : (readF (turnB (frameF 3 [97, 98]) 12 1)).2.2 = 14 := by
  have h := read_turn 3 [97, 98] 0 1 ab_bytes right_ab (by omega) (by omega)
  have e : ((frameF 3 [97, 98]).length : Int) - 1 - (0 : Nat) = 12 := by rw [frame_ab]; rfl
  rw [e, if_neg (by decide)] at h
  exact h
theorem rt_ab : ∀ g ∈ [((3 : Int), [(97 : Int), 98]), (3, [97, 98])], RtF g := fun g hg => by
  simp at hg
  subst hg
  exact ⟨right_ab, ab_bytes⟩
theorem join_ab : joinF [(3, [97, 98]), (3, [97, 98])] = frameF 3 [97, 98] ++ frameF 3 [97, 98] := by simp [joinF]
theorem at_ab : atF (frameF 3 [97, 98] ++ frameF 3 [97, 98]) 1 = 13 := by
  have h := at_join rt_ab 1 (by decide)
  rw [join_ab] at h
  rw [h]
  show (joinF [(3, [97, 98])]).length = 13
  rw [joinF_cons, joinF_nil, List.append_nil]
  exact frame_ab
theorem fr_ab : frF (frameF 3 [97, 98] ++ frameF 3 [97, 98]) 1 = (3, [97, 98], 13, 0) := by
  have h := fr_join rt_ab 1 (by decide)
  rw [join_ab] at h
  rw [h]
  show ((3 : Int), [(97 : Int), 98], (((frameF 3 [97, 98]).length : Nat) : Int), (0 : Int)) = _
  rw [frame_ab]
  rfl

theorem own_pos {w : World} {base n : Nat} {v : Value} {zs : List Int} (h : w.ownsRow base 5 1 v n (zs.map (Value.int .u8))) (hn : 0 < n) : ∃ g cap, v = .slice (some ⟨g, 0, none⟩) n cap := by
  rcases h.2 with ⟨-, h0⟩ | ⟨g, cap, -, h1, -⟩
  · omega
  · exact ⟨g, cap, h1⟩
theorem frr_load {w : World} {B o : Nat} {k : Int} {v : Value} (h : w.rangeAt B o (frL k v)) : (Instr.loadAt 24 (.pointer (some ⟨B, o, none⟩))).run Try.prog w = .ok (frV k v) w := by
  obtain ⟨d, h1, h2⟩ := fr_under
  exact run_loadAt_mid w B o _ (frL k v) d h h1 h2 (fr_infoL k v)
theorem rows_pos {α : Type} {f : α → List Value} {z : α} {c : Nat} {w : World} {v : Value} {qs : List α} (h : RowsSl f z c w v qs) {n : Nat} (hl : qs.length = n) (hn : 0 < n) : ∃ blk off cap, v = .slice (some ⟨blk, off, none⟩) n cap ∧ n ≤ cap ∧ cap ≤ maxLen ∧ ∀ i, i < n → w.rangeAt blk (off + i * c) (f (qs[i]?.getD z)) := by
  subst hl
  rcases h with ⟨-, rfl⟩ | h
  · simp at hn
  · exact h
theorem rngf_kept {w w' : World} {B o : Nat} {vs : List Value} (h : w.rangeAt B o vs) (k : Kp Nb w w') : w'.rangeAt B o vs := fun j v hv => k.cell (h j v hv) (fun h => h)
theorem by_cell {w : World} {blk cap n : Nat} {zs : List Int} (h : BySl Nb w (.slice (some ⟨blk, 0, none⟩) n cap) zs) (i : Nat) (hi : i < zs.length) : w.cell? ⟨blk, i, none⟩ = some (.int .u8 (zs[i]?.getD 0)) := by
  rcases h.2 with ⟨⟨a, c, e⟩, rfl⟩ | ⟨b, off, c, e, -, -, hb, -⟩
  · simp at hi
  · injection e with e1 e2 e3
    injection e1 with e1
    injection e1 with e1 e4
    subst e1 e4
    have := hb i hi
    rw [Nat.zero_add] at this
    exact this

set_option maxRecDepth 100000 in
set_option maxHeartbeats 8000000 in
theorem ffirst_any (w : World) : Calls Try.prog 7 #[] w fun e w' => e = .returned (.bool true) ∧ Kp Nb w w' := by
  obtain ⟨F, hF⟩ : ∃ F, frameF 3 [97, 98] = F := ⟨_, rfl⟩
  have LF : F.length = 13 := by rw [← hF]; exact frame_ab
  have HLF := hid LF
  have Z0 : Hid (F[0]?.getD 0 = 71) := hid (by rw [← hF]; exact frame_zero _ _)
  have RF : Hid (readF F = (3, [97, 98], 0)) := hid (by rw [← hF]; exact read_frame 3 _ ab_bytes right_ab)
  have RT : Hid ((readF (turnB F 12 1)).2.2 = 14) := hid (by rw [← hF]; exact turn_ab)
  have BF : Hid (IsBytes F) := hid (by rw [← hF]; exact frame_bytes 3 _ ab_bytes right_ab)
  have CP : Hid (∀ v w, BySl Nb w v [97, 98] → Calls Try.prog 13 #[frV 3 v] w fun e w' => ∃ r, e = .returned r ∧ w'.ownsRow w.heap.size 5 1 r 13 (F.map (Value.int .u8)) ∧ Kp Nb w w') := hid (fun v w hv => by
    have h := fput_yes 3 v [97, 98] w hv right_ab
    rw [hF, LF] at h
    exact h)
  have FND : Hid (∀ (xs : List FrE3) (W : World), SpF (F ++ F) xs W → (xs.length = (9 : Int).toNat ∨ (xs.length ≤ (9 : Int).toNat ∧ ¬ okF (F ++ F) xs.length)) → xs.length = 2) := hid (fun xs W h1 h2 => by
    rw [← hF, ← join_ab] at h1 h2
    exact found_join rt_ab h1 (by decide) h2)
  have AT1 : Hid (atF (F ++ F) 1 = 13 ∧ frF (F ++ F) 1 = (3, [97, 98], 13, 0)) := hid (by rw [← hF]; exact ⟨at_ab, fr_ab⟩)
  have CC : Hid (∀ w, Calls Try.prog 15 #[.int .i64 2] w fun e w' => e = .returned (.int .i64 13) ∧ w = w') := hid (fun w => fcost_any 2 w)
  have CR : Hid (∀ y d w, Calls Try.prog 12 #[frV 3 (.slice y 2 d)] w fun e w' => e = .returned (.bool true) ∧ Kp Nb w w') := hid (fun y d w => fright_any 3 y 2 d w)
  have CS : Hid (∀ u v wq, BySl Nb wq u [97, 98] → BySl Nb wq v [97, 98] → Calls Try.prog 14 #[frV 3 u, frV 3 v] wq fun e w' => e = .returned (.bool true) ∧ Kp Nb wq w') := hid (fun u v wq h1 h2 => by
    have h := fsame_any 3 3 u v [97, 98] [97, 98] wq h1 h2
    rw [show sameF 3 3 [97, 98] [97, 98] = true from rfl] at h
    exact h)
  have CRD : Hid (∀ v w, BySl Nb w v F → Calls Try.prog 10 #[v] w fun e w' => ∃ b, e = .returned (.tuple #[frV 3 b, .int .i64 0]) ∧ BySl Nb w' b [97, 98] ∧ Kp Nb w w') := hid (fun v w hv => by
    have h := fread_any v F w hv (by rw [LF]; omega)
    rw [RF.out] at h
    exact h)
  have CTU : Hid (∀ v w, BySl Nb w v F → Calls Try.prog 18 #[v, .int .i64 12, .int .u8 1] w fun e w' => ∃ v', e = .returned v' ∧ BySl Nb w' v' (turnB F 12 1) ∧ Kp Nb w w') := hid (fun v w hv => fturn_any v F 12 1 w hv (by rw [LF]; omega))
  have CRT : Hid (∀ v w, BySl Nb w v (turnB F 12 1) → Calls Try.prog 10 #[v] w fun e w' => ∃ k b n y d, e = .returned (.tuple #[frV k b, .int .i64 14]) ∧ b = .slice y n d ∧ Kp Nb w w') := hid (fun v w hv => by
    refine (fread_any v _ w hv (by rw [turnB_length, LF]; omega)).mono ?_
    rw [RT.out]
    rintro e w' ⟨b, rfl, hb, hk⟩
    obtain ⟨y, d, rfl⟩ := hb.shp
    exact ⟨_, _, _, y, d, rfl, rfl, hk⟩)
  have CAL : Hid (∀ v w, BySl Nb w v (F ++ F) → Calls Try.prog 16 #[v, .int .i64 9] w fun e w' => ∃ v1 v2 xs, e = .returned (.tuple #[v1, v2]) ∧ RowsSl f1F zF3 1 w' v1 xs ∧ RowsSl f2F zF3 2 w' v2 xs ∧ SpF (F ++ F) xs w' ∧ xs.length = 2 ∧ Kp Nb w w') := hid (fun v w hv => by
    refine (fall_rows v (F ++ F) 9 w hv (by rw [List.length_append, LF]; omega)).mono ?_
    rintro e w' ⟨v1, v2, xs, rfl, h1, h2, h3, h4, h5⟩
    exact ⟨v1, v2, xs, rfl, h1, h2, h3, FND.out xs w' h3 h4, h5⟩)
  clear hF
  obtain ⟨N, hN⟩ : ∃ N, w.heap.size = N := ⟨_, rfl⟩
  obtain ⟨W, hW⟩ : ∃ W, W = (w.alloc (.cells #[.int .u8 97, .int .u8 98] 5 (2, 3))).alloc (.cells (frL 3 (.slice (some ⟨N, 0, none⟩) 2 2)).toArray 24) := ⟨_, rfl⟩
  have BA : Hid (BySl Nb W (.slice (some ⟨N, 0, none⟩) 2 2) [97, 98]) := hid (by
    refine by_ab ?_
    rw [hW, ← hN]
    exact (((Kp.refl Nb _).alloc _).heap (by rw [World.size_alloc]; omega) (fun h => h)).trans (World.alloc_heap_new w _))
  have B1 : Hid (Blk W (N + 1) 24 (frL 3 (.slice (some ⟨N, 0, none⟩) 2 2))) := hid (by
    have h := Blk.new (w.alloc (.cells #[.int .u8 97, .int .u8 98] 5 (2, 3))) 24 (frL 3 (.slice (some ⟨N, 0, none⟩) 2 2))
    simp only [World.size_alloc] at h
    rw [hW, ← hN]
    rw [hN] at h ⊢
    exact h)
  have KW : Hid (Kp Nb w W) := hid (by rw [hW]; exact ((Kp.refl Nb w).alloc _).alloc _)
  have hcv : (convert 22 22 (.slice (some ⟨N, 0, none⟩) 2 2)).run Try.prog (w.alloc (.cells #[.int .u8 97, .int .u8 98] 5)) = .ok (.slice (some ⟨N, 0, none⟩) 2 2) (w.alloc (.cells #[.int .u8 97, .int .u8 98] 5 (2, 3))) := by
    rw [← hN]
    exact Lib.run_convert_bytes_const (P := Try.prog) w 22 5 _ 2 2 Try.underlying22 Try.underlying5
  go_enter Try.func7, Try.ntmps7
  go_upto_region 2 with fail
  rw [show (w.alloc (.cells #[.int .u8 97, .int .u8 98] 5 (2, 3))).alloc (.cells #[.int .i64 3, .slice (some ⟨N, 0, none⟩) 2 2] 24) = W from hW.symm]
  clear hW hN
  have b10 := B1.out.cell 0
  have b11 := B1.out.cell 1
  simp only [List.getElem?_cons_zero, List.getElem?_cons_succ] at b10 b11
  go_wp2_with fail
  refine (CP.out _ _ BA.out).mono ?_
  rintro e w2 ⟨r, rfl, ow, k2⟩
  obtain ⟨gb, cb, rfl⟩ := own_pos ow (by decide)
  have BR2 : Hid (BySl Nb w2 (.slice (some ⟨gb, 0, none⟩) 13 cb) F) := hid (BySl.ofOwn (base := W.heap.size) (by rw [HLF.out]; exact ow) BF.out (fun _ _ _ h => h))
  have BA2 := hid (BA.out.kept k2 (fun _ h => h))
  have B12 := hid (B1.out.kept k2 (fun h => h))
  have K2 := hid (KW.out.trans k2 (fun _ _ h => h))
  clear b10 b11 BA B1 KW ow k2 CP hcv LF
  go_wp2_with fail
  refine (CRD.out _ _ BR2.out).mono ?_
  rintro e w3 ⟨b3, rfl, hb3, k3⟩
  obtain ⟨y3, d3, rfl⟩ := hb3.shp
  obtain ⟨M3, hM3⟩ : ∃ N, w3.heap.size = N := ⟨_, rfl⟩
  obtain ⟨W3, hW3⟩ : ∃ W, W = w3.alloc (.cells (frL 3 (.slice y3 2 d3)).toArray 24) := ⟨_, rfl⟩
  have k3' : Kp Nb w2 W3 := by rw [hW3]; exact k3.alloc _
  have BM3 : Hid (Blk W3 M3 24 (frL 3 (.slice y3 2 d3))) := hid (by rw [hW3, ← hM3]; exact Blk.new w3 _ _)
  have BB3 : Hid (BySl Nb W3 (.slice y3 2 d3) [97, 98]) := hid (hb3.kept (by rw [hW3]; exact (Kp.refl Nb w3).alloc _) (fun _ h => h))
  have BR3 := hid (BR2.out.kept k3' (fun _ h => h))
  have BA3 := hid (BA2.out.kept k3' (fun _ h => h))
  have B13 := hid (B12.out.kept k3' (fun h => h))
  have K3 := hid (K2.out.trans k3' (fun _ _ h => h))
  clear k3 k3' hb3 BR2 BA2 B12 K2 CRD
  go_upto_region 4 with fail
  rw [show w3.alloc (.cells #[.int .i64 3, .slice y3 2 d3] 24) = W3 from hW3.symm]
  clear hW3 hM3
  go_wp2_with fail
  refine (CTU.out _ _ BR3.out).mono ?_
  rintro e w4 ⟨v4, rfl, hb4, k4⟩
  have BT4 := hid hb4
  have K34 := hid k4
  clear hb4 k4 CTU
  go_wp2_with fail
  refine (CRT.out _ _ BT4.out).mono ?_
  rintro e w5 ⟨kk5, _, n5, y5, d5, rfl, rfl, k5⟩
  obtain ⟨M5, hM5⟩ : ∃ N, w5.heap.size = N := ⟨_, rfl⟩
  obtain ⟨W5, hW5⟩ : ∃ W, W = w5.alloc (.cells (frL kk5 (.slice y5 n5 d5)).toArray 24) := ⟨_, rfl⟩
  have k5' : Kp Nb W3 W5 := by rw [hW5]; exact (K34.out.trans k5 (fun _ _ h => h)).alloc _
  have BM5 := hid (BM3.out.kept k5' (fun h => h))
  have BB5 := hid (BB3.out.kept k5' (fun _ h => h))
  have BR5 := hid (BR3.out.kept k5' (fun _ h => h))
  have BA5 := hid (BA3.out.kept k5' (fun _ h => h))
  have B15 := hid (B13.out.kept k5' (fun h => h))
  have K5 := hid (K3.out.trans k5' (fun _ _ h => h))
  clear k5 k5' K34 BT4 BM3 BB3 BR3 BA3 B13 K3 CRT
  go_upto_region 5 with fail
  rw [show w5.alloc (.cells #[.int .i64 kk5, .slice y5 n5 d5] 24) = W5 from hW5.symm]
  clear hW5 hM5
  obtain ⟨i0, z0, hi, hz0, hz1, hz2, hz3⟩ := byte_info3
  have LL : Hid (0 + F.length ≤ maxLen ∧ (0 + F.length) * 1 ≤ 140737488355328 ∧ F.length + F.length ≤ maxLen ∧ (F.length + F.length) * 1 ≤ 140737488355328) := hid (by rw [HLF.out]; unfold maxLen; omega)
  have FR : Hid (RowsSl bF 0 1 (W5.alloc (.cells #[] 5 (0, 0))) (.slice (some ⟨gb, 0, none⟩) 13 cb) F) := hid ((rows_by BR5.out).kept ((Kp.refl Nb W5).alloc _))
  have SZ : Hid (W5.heap.size ≤ (W5.alloc (.cells #[] 5 (0, 0))).heap.size) := hid ((Kp.refl Nb W5).alloc _).size
  go_wp2_with (at_builtin; refine wpList_append_rows (f := bF) (z := 0) (c := 1) rfl _ _ 22 rfl W5.heap.size 5 i0 z0 1 Try.underlying22 hi hz0 hz1 hz2 hz3 (by decide) _ 0 [] rfl (World.ownsRow_made W5 #[] 0 (Nat.le_refl _) (Nat.zero_le _) rfl) _ F rfl FR.out (fun q _ => rfl) (fun q _ u hu => by rw [List.mem_singleton.1 hu]; rfl) LL.out.1 LL.out.2.1 SZ.out ?_)
  intro v9 w9 hown hgrow
  have hk := ((Kp.refl Nb W5).alloc (.cells #[] 5)).grown hgrow (fun k hk h => by simp [Value.ownBlock] at hk; omega)
  have HO9 : Hid (w9.ownsRow W5.heap.size 5 1 v9 F.length (F.map (Value.int .u8))) := hid (by rw [flat_bytes] at hown; simpa only [Nat.zero_add, List.nil_append] using hown)
  have FR9 := hid ((rows_by BR5.out).kept hk)
  have K9 := hid hk
  clear hown hgrow hk FR
  obtain ⟨y9, c9, rfl⟩ := own_shape HO9.out
  go_wp2_with (at_builtin; refine wpList_append_rows (f := bF) (z := 0) (c := 1) rfl _ _ 22 rfl W5.heap.size 5 i0 z0 1 Try.underlying22 hi hz0 hz1 hz2 hz3 (by decide) _ _ _ rfl HO9.out _ F rfl FR9.out (fun q _ => rfl) (fun q _ u hu => by rw [List.mem_singleton.1 hu]; rfl) LL.out.2.2.1 LL.out.2.2.2 K9.out.size ?_)
  intro v10 w10 hown hgrow
  have hk := K9.out.grown hgrow (fun k hk h => by have := (row_cells HO9.out hk).1; omega)
  have BV : Hid (BySl Nb w10 v10 (F ++ F)) := hid (by
    rw [flat_bytes, ← List.map_append, ← List.length_append] at hown
    exact BySl.ofOwn hown (BF.out.append BF.out) (fun _ _ _ h => h))
  have K10 := hid hk
  clear hown hgrow hk HO9 FR9 K9 SZ LL
  go_wp2_with fail
  refine (CAL.out _ _ BV.out).mono ?_
  rintro e w11 ⟨v1, v2, xs, rfl, r1, r2, hsp, hl, k11⟩
  obtain ⟨g1, o1, c1, rfl, n1, -, q1⟩ := rows_pos r1 hl (by decide)
  obtain ⟨g2, o2, c2, rfl, n2, -, q2⟩ := rows_pos r2 hl (by decide)
  obtain ⟨⟨px, kx, yx, nx, dx⟩, hxe⟩ : ∃ x, xs[1]? = some x := ⟨_, List.getElem?_eq_getElem (by omega)⟩
  obtain ⟨x1, x2, x3, -⟩ := hsp.2 1 _ hxe
  rw [AT1.out.1] at x1
  rw [AT1.out.2] at x2 x3
  dsimp only at x1 x2 x3
  subst x1 x2
  obtain ⟨y', d', e'⟩ := x3.shp
  injection e' with e1 e2 e3
  subst e1 e2 e3
  have q1' := q1 1 (by decide)
  have q2' := q2 1 (by decide)
  rw [hxe] at q1' q2'
  have C13 : Hid (w11.cell? ⟨g1, o1 + 1, none⟩ = some (.int .i64 13)) := hid (q1' 0 _ rfl)
  have R13 : Hid (w11.rangeAt g2 (o2 + 2) (frL 3 (.slice yx 2 dx))) := hid q2'
  have BX := hid x3
  have kk := K10.out.trans k11 (fun _ _ h => h)
  have BM := hid (BM5.out.kept kk (fun h => h))
  have BB := hid (BB5.out.kept kk (fun _ h => h))
  have BR := hid (BR5.out.kept kk (fun _ h => h))
  have BA := hid (BA5.out.kept kk (fun _ h => h))
  have B1 := hid (B15.out.kept kk (fun h => h))
  have KK := hid (K5.out.trans kk (fun _ _ h => h))
  have C71 : Hid (w11.cell? ⟨gb, 0, none⟩ = some (.int .u8 71)) := hid (by have h := by_cell BR.out 0 (by rw [HLF.out]; decide); rw [Z0.out] at h; exact h)
  clear r1 r2 hsp hl k11 q1 q2 hxe x3 q1' q2' kk BM5 BB5 BR5 BA5 B15 K5 K10 CAL BV AT1
  go_upto_region 6 with fail
  refine region_vals2 [some 48, none, none, none, none, none, none, none, none, none, none, none, none, none, none, none, none, none, none, none, none, none, none, none, none, none, none, none, none, none, none, none, none, none, none, none, none, some 0, some 1, some 2, some 3, some 4, some 5, some 6, some 7, some 8, some 9, some 10, some 11, some 12, some 13, some 14, some 15, some 16, some 17, some 18, some 19, some 20, some 21, some 22, some 23, some 24, some 25, some 26, some 27, some 28, some 29, some 30, some 31, some 32, some 33, some 34, some 35, some 36, some 37, some 38, some 39, some 40, some 41, some 42, some 43, some 44, some 45, some 46, some 47] [[(2, none)], [(37, some 0)], [(38, some 1)], [(39, some 2)], [(2, none)], [(41, some 4)], [(42, some 5)], [(43, some 6)], [(40, some 3), (44, some 7)], [(45, some 8)], [(4, none)], [(47, some 10)], [(46, some 9), (48, some 11)], [(49, some 12)], [(3, none)], [(1, none)], [(51, some 14), (52, some 15)], [(50, some 13), (53, some 16)], [(54, some 17)], [(6, none)], [(56, some 19)], [(55, some 18), (57, some 20)], [(58, some 21)], [], [(60, some 23)], [(59, some 22), (61, some 24)], [(62, some 25)], [(7, none)], [(64, some 27)], [(65, some 28)], [(63, some 26), (66, some 29)], [(67, some 30)], [(7, none)], [(69, some 32)], [(70, some 33)], [(71, some 34)], [(68, some 31), (72, some 35)], [(73, some 36)], [(8, none)], [(75, some 38)], [(76, some 39)], [(1, none)], [(77, some 40), (78, some 41)], [(74, some 37), (79, some 42)], [(80, some 43)], [(1, none)], [(82, some 45)], [(81, some 44), (83, some 46)], [(84, some 47)]] [some 37, some 38, some 39, some 40, some 41, some 42, some 43, some 44, some 45, some 46, some 47, some 48, some 49, some 50, some 51, some 52, some 53, some 54, some 55, some 56, some 57, some 58, some 59, some 60, some 61, some 62, some 63, some 64, some 65, some 66, some 67, some 68, some 69, some 70, some 71, some 72, some 73, some 74, some 75, some 76, some 77, some 78, some 79, some 80, some 81, some 82, some 83, some 84, some 0] [.slice (some ⟨gb, 0, none⟩) 13 cb, .int .i64 13, .bool true, .bool true, .slice (some ⟨gb, 0, none⟩) 13 cb, .pointer (some ⟨gb, 0, none⟩), .int .u8 71, .bool true, .bool true, .bool true, .int .i64 0, .bool true, .bool true, .bool true, frV 3 (.slice y3 2 d3), frV 3 (.slice (some ⟨N, 0, none⟩) 2 2), .bool true, .bool true, .bool true, .int .i64 14, .bool true, .bool true, .bool true, .int .i64 13, .bool true, .bool true, .bool true, .slice (some ⟨g1, o1, none⟩) 2 c1, .int .i64 2, .bool true, .bool true, .bool true, .slice (some ⟨g1, o1, none⟩) 2 c1, .pointer (some ⟨g1, o1 + 1, none⟩), .int .i64 13, .bool true, .bool true, .bool true, .slice (some ⟨g2, o2, none⟩) 2 c2, .pointer (some ⟨g2, o2 + 2, none⟩), frV 3 (.slice yx 2 dx), frV 3 (.slice (some ⟨N, 0, none⟩) 2 2), .bool true, .bool true, .bool true, frV 3 (.slice (some ⟨N, 0, none⟩) 2 2), .bool true, .bool true, .bool true] (fun w' => Hid (Kp Nb w11 w')) (by kernel_rfl) (by kernel_rfl) (by kernel_rfl) ?hS (VFrom.all (n := 49) (by kernel_rfl) ?hstep) ?hend
  case hstep =>
    refine VFrom.cons (VStep.val _ rfl _ rfl (.slice (some ⟨gb, 0, none⟩) 13 cb) rfl trivial (fun ev wq hS he hr => ?_)) ?_
    · have r0 : ev (.tmp 2) = .slice (some ⟨gb, 0, none⟩) 13 cb := hr (2, none) (by simp); have hk := he.1; clear hr he
      go_simp
    refine VFrom.cons (VStep.val _ rfl _ rfl (.int .i64 13) rfl trivial (fun ev wq hS he hr => ?_)) ?_
    · have r0 : ev (.tmp 37) = .slice (some ⟨gb, 0, none⟩) 13 cb := hr (37, some 0) (by simp); have hk := he.1; clear hr he
      go_simp
    refine VFrom.cons (VStep.val _ rfl _ rfl (.bool true) rfl trivial (fun ev wq hS he hr => ?_)) ?_
    · have r0 : ev (.tmp 38) = .int .i64 13 := hr (38, some 1) (by simp); have hk := he.1; clear hr he
      go_simp
    refine VFrom.cons (VStep.val _ rfl _ rfl (.bool true) rfl trivial (fun ev wq hS he hr => ?_)) ?_
    · have r0 : ev (.tmp 39) = .bool true := hr (39, some 2) (by simp); have hk := he.1; clear hr he
      go_simp
    refine VFrom.cons (VStep.val _ rfl _ rfl (.slice (some ⟨gb, 0, none⟩) 13 cb) rfl rfl (fun ev wq hS he hr => ?_)) ?_
    · have r0 : ev (.tmp 2) = .slice (some ⟨gb, 0, none⟩) 13 cb := hr (2, none) (by simp); have hk := he.1; clear hr he
      go_simp
    refine VFrom.cons (VStep.val _ rfl _ rfl (.pointer (some ⟨gb, 0, none⟩)) rfl rfl (fun ev wq hS he hr => ?_)) ?_
    · have r0 : ev (.tmp 41) = .slice (some ⟨gb, 0, none⟩) 13 cb := hr (41, some 4) (by simp); have hk := he.1; clear hr he
      go_simp
    refine VFrom.cons (VStep.val _ rfl _ rfl (.int .u8 71) rfl rfl (fun ev wq hS he hr => ?_)) ?_
    · have r0 : ev (.tmp 42) = .pointer (some ⟨gb, 0, none⟩) := hr (42, some 5) (by simp); have hk := he.1; clear hr he
      have c0 := hS.out.cell C71.out (fun h => h)
      go_simp
    refine VFrom.cons (VStep.val _ rfl _ rfl (.bool true) rfl rfl (fun ev wq hS he hr => ?_)) ?_
    · have r0 : ev (.tmp 43) = .int .u8 71 := hr (43, some 6) (by simp); have hk := he.1; clear hr he
      go_simp
    refine VFrom.cons (VStep.val _ rfl _ rfl (.bool true) rfl trivial (fun ev wq hS he hr => ?_)) ?_
    · have r0 : ev (.tmp 40) = .bool true := hr (40, some 3) (by simp); have r1 : ev (.tmp 44) = .bool true := hr (44, some 7) (by simp); have hk := he.1; clear hr he
      go_simp
    refine VFrom.cons (VStep.val _ rfl _ rfl (.bool true) rfl trivial (fun ev wq hS he hr => ?_)) ?_
    · have r0 : ev (.tmp 45) = .bool true := hr (45, some 8) (by simp); have hk := he.1; clear hr he
      go_simp
    refine VFrom.cons (VStep.val _ rfl _ rfl (.int .i64 0) rfl rfl (fun ev wq hS he hr => ?_)) ?_
    · have r0 : ev (.tmp 4) = .int .i64 0 := hr (4, none) (by simp); have hk := he.1; clear hr he
      go_simp
    refine VFrom.cons (VStep.val _ rfl _ rfl (.bool true) rfl rfl (fun ev wq hS he hr => ?_)) ?_
    · have r0 : ev (.tmp 47) = .int .i64 0 := hr (47, some 10) (by simp); have hk := he.1; clear hr he
      go_simp
    refine VFrom.cons (VStep.val _ rfl _ rfl (.bool true) rfl trivial (fun ev wq hS he hr => ?_)) ?_
    · have r0 : ev (.tmp 46) = .bool true := hr (46, some 9) (by simp); have r1 : ev (.tmp 48) = .bool true := hr (48, some 11) (by simp); have hk := he.1; clear hr he
      go_simp
    refine VFrom.cons (VStep.val _ rfl _ rfl (.bool true) rfl trivial (fun ev wq hS he hr => ?_)) ?_
    · have r0 : ev (.tmp 49) = .bool true := hr (49, some 12) (by simp); have hk := he.1; clear hr he
      go_simp
    refine VFrom.cons (VStep.val _ rfl _ rfl (frV 3 (.slice y3 2 d3)) rfl rfl (fun ev wq hS he hr => ?_)) ?_
    · have r0 : ev (.tmp 3) = .pointer (some ⟨M3, 0, none⟩) := hr (3, none) (by simp); have hk := he.1; clear hr he
      exact exec_load rfl r0 (fr_load (BM.out.kept hS.out (fun h => h)))
    refine VFrom.cons (VStep.val _ rfl _ rfl (frV 3 (.slice (some ⟨N, 0, none⟩) 2 2)) rfl rfl (fun ev wq hS he hr => ?_)) ?_
    · have r0 : ev (.tmp 1) = .pointer (some ⟨(N + 1), 0, none⟩) := hr (1, none) (by simp); have hk := he.1; clear hr he
      exact exec_load rfl r0 (fr_load (B1.out.kept hS.out (fun h => h)))
    refine VFrom.cons (VStep.call _ rfl _ rfl (.bool true) rfl rfl 14 #[frV 3 (.slice y3 2 d3), frV 3 (.slice (some ⟨N, 0, none⟩) 2 2)] (fun ev wq hS he hr => ?_) (fun wq hS => ?_)) ?_
    · have r0 : ev (.tmp 51) = frV 3 (.slice y3 2 d3) := hr (51, some 14) (by simp); have r1 : ev (.tmp 52) = frV 3 (.slice (some ⟨N, 0, none⟩) 2 2) := hr (52, some 15) (by simp); have hk := he.1; have hf := he.2; clear hr he
      go_simp
    · exact (CS.out _ _ wq (BB.out.kept hS.out (fun _ h => h)) (BA.out.kept hS.out (fun _ h => h))).mono fun e w' ⟨h1, h2⟩ => ⟨h1, hid (hS.out.trans h2 (fun _ _ h => h))⟩
    refine VFrom.cons (VStep.val _ rfl _ rfl (.bool true) rfl trivial (fun ev wq hS he hr => ?_)) ?_
    · have r0 : ev (.tmp 50) = .bool true := hr (50, some 13) (by simp); have r1 : ev (.tmp 53) = .bool true := hr (53, some 16) (by simp); have hk := he.1; clear hr he
      go_simp
    refine VFrom.cons (VStep.val _ rfl _ rfl (.bool true) rfl trivial (fun ev wq hS he hr => ?_)) ?_
    · have r0 : ev (.tmp 54) = .bool true := hr (54, some 17) (by simp); have hk := he.1; clear hr he
      go_simp
    refine VFrom.cons (VStep.val _ rfl _ rfl (.int .i64 14) rfl rfl (fun ev wq hS he hr => ?_)) ?_
    · have r0 : ev (.tmp 6) = .int .i64 14 := hr (6, none) (by simp); have hk := he.1; clear hr he
      go_simp
    refine VFrom.cons (VStep.val _ rfl _ rfl (.bool true) rfl rfl (fun ev wq hS he hr => ?_)) ?_
    · have r0 : ev (.tmp 56) = .int .i64 14 := hr (56, some 19) (by simp); have hk := he.1; clear hr he
      go_simp
    refine VFrom.cons (VStep.val _ rfl _ rfl (.bool true) rfl trivial (fun ev wq hS he hr => ?_)) ?_
    · have r0 : ev (.tmp 55) = .bool true := hr (55, some 18) (by simp); have r1 : ev (.tmp 57) = .bool true := hr (57, some 20) (by simp); have hk := he.1; clear hr he
      go_simp
    refine VFrom.cons (VStep.val _ rfl _ rfl (.bool true) rfl trivial (fun ev wq hS he hr => ?_)) ?_
    · have r0 : ev (.tmp 58) = .bool true := hr (58, some 21) (by simp); have hk := he.1; clear hr he
      go_simp
    refine VFrom.cons (VStep.call _ rfl _ rfl (.int .i64 13) rfl rfl 15 #[.int .i64 2] (fun ev wq hS he hr => ?_) (fun wq hS => ?_)) ?_
    · have hk := he.1; have hf := he.2; clear hr he
      go_simp
    · exact (CC.out wq).mono fun e w' ⟨h1, h2⟩ => ⟨h1, by rw [← h2]; exact hS⟩
    refine VFrom.cons (VStep.val _ rfl _ rfl (.bool true) rfl rfl (fun ev wq hS he hr => ?_)) ?_
    · have r0 : ev (.tmp 60) = .int .i64 13 := hr (60, some 23) (by simp); have hk := he.1; clear hr he
      go_simp
    refine VFrom.cons (VStep.val _ rfl _ rfl (.bool true) rfl trivial (fun ev wq hS he hr => ?_)) ?_
    · have r0 : ev (.tmp 59) = .bool true := hr (59, some 22) (by simp); have r1 : ev (.tmp 61) = .bool true := hr (61, some 24) (by simp); have hk := he.1; clear hr he
      go_simp
    refine VFrom.cons (VStep.val _ rfl _ rfl (.bool true) rfl trivial (fun ev wq hS he hr => ?_)) ?_
    · have r0 : ev (.tmp 62) = .bool true := hr (62, some 25) (by simp); have hk := he.1; clear hr he
      go_simp
    refine VFrom.cons (VStep.val _ rfl _ rfl (.slice (some ⟨g1, o1, none⟩) 2 c1) rfl rfl (fun ev wq hS he hr => ?_)) ?_
    · have r0 : ev (.tmp 7) = .slice (some ⟨g1, o1, none⟩) 2 c1 := hr (7, none) (by simp); have hk := he.1; clear hr he
      go_simp
    refine VFrom.cons (VStep.val _ rfl _ rfl (.int .i64 2) rfl rfl (fun ev wq hS he hr => ?_)) ?_
    · have r0 : ev (.tmp 64) = .slice (some ⟨g1, o1, none⟩) 2 c1 := hr (64, some 27) (by simp); have hk := he.1; clear hr he
      go_simp
    refine VFrom.cons (VStep.val _ rfl _ rfl (.bool true) rfl rfl (fun ev wq hS he hr => ?_)) ?_
    · have r0 : ev (.tmp 65) = .int .i64 2 := hr (65, some 28) (by simp); have hk := he.1; clear hr he
      go_simp
    refine VFrom.cons (VStep.val _ rfl _ rfl (.bool true) rfl trivial (fun ev wq hS he hr => ?_)) ?_
    · have r0 : ev (.tmp 63) = .bool true := hr (63, some 26) (by simp); have r1 : ev (.tmp 66) = .bool true := hr (66, some 29) (by simp); have hk := he.1; clear hr he
      go_simp
    refine VFrom.cons (VStep.val _ rfl _ rfl (.bool true) rfl trivial (fun ev wq hS he hr => ?_)) ?_
    · have r0 : ev (.tmp 67) = .bool true := hr (67, some 30) (by simp); have hk := he.1; clear hr he
      go_simp
    refine VFrom.cons (VStep.val _ rfl _ rfl (.slice (some ⟨g1, o1, none⟩) 2 c1) rfl rfl (fun ev wq hS he hr => ?_)) ?_
    · have r0 : ev (.tmp 7) = .slice (some ⟨g1, o1, none⟩) 2 c1 := hr (7, none) (by simp); have hk := he.1; clear hr he
      go_simp
    refine VFrom.cons (VStep.val _ rfl _ rfl (.pointer (some ⟨g1, o1 + 1, none⟩)) rfl rfl (fun ev wq hS he hr => ?_)) ?_
    · have r0 : ev (.tmp 69) = .slice (some ⟨g1, o1, none⟩) 2 c1 := hr (69, some 32) (by simp); have hk := he.1; clear hr he
      go_simp
    refine VFrom.cons (VStep.val _ rfl _ rfl (.int .i64 13) rfl rfl (fun ev wq hS he hr => ?_)) ?_
    · have r0 : ev (.tmp 70) = .pointer (some ⟨g1, o1 + 1, none⟩) := hr (70, some 33) (by simp); have hk := he.1; clear hr he
      have c0 := hS.out.cell C13.out (fun h => h)
      go_simp
    refine VFrom.cons (VStep.val _ rfl _ rfl (.bool true) rfl rfl (fun ev wq hS he hr => ?_)) ?_
    · have r0 : ev (.tmp 71) = .int .i64 13 := hr (71, some 34) (by simp); have hk := he.1; clear hr he
      go_simp
    refine VFrom.cons (VStep.val _ rfl _ rfl (.bool true) rfl trivial (fun ev wq hS he hr => ?_)) ?_
    · have r0 : ev (.tmp 68) = .bool true := hr (68, some 31) (by simp); have r1 : ev (.tmp 72) = .bool true := hr (72, some 35) (by simp); have hk := he.1; clear hr he
      go_simp
    refine VFrom.cons (VStep.val _ rfl _ rfl (.bool true) rfl trivial (fun ev wq hS he hr => ?_)) ?_
    · have r0 : ev (.tmp 73) = .bool true := hr (73, some 36) (by simp); have hk := he.1; clear hr he
      go_simp
    refine VFrom.cons (VStep.val _ rfl _ rfl (.slice (some ⟨g2, o2, none⟩) 2 c2) rfl rfl (fun ev wq hS he hr => ?_)) ?_
    · have r0 : ev (.tmp 8) = .slice (some ⟨g2, o2, none⟩) 2 c2 := hr (8, none) (by simp); have hk := he.1; clear hr he
      go_simp
    refine VFrom.cons (VStep.val _ rfl _ rfl (.pointer (some ⟨g2, o2 + 2, none⟩)) rfl rfl (fun ev wq hS he hr => ?_)) ?_
    · have r0 : ev (.tmp 75) = .slice (some ⟨g2, o2, none⟩) 2 c2 := hr (75, some 38) (by simp); have hk := he.1; clear hr he
      go_simp
    refine VFrom.cons (VStep.val _ rfl _ rfl (frV 3 (.slice yx 2 dx)) rfl rfl (fun ev wq hS he hr => ?_)) ?_
    · have r0 : ev (.tmp 76) = .pointer (some ⟨g2, o2 + 2, none⟩) := hr (76, some 39) (by simp); have hk := he.1; clear hr he
      exact exec_load rfl r0 (frr_load (rngf_kept R13.out hS.out))
    refine VFrom.cons (VStep.val _ rfl _ rfl (frV 3 (.slice (some ⟨N, 0, none⟩) 2 2)) rfl rfl (fun ev wq hS he hr => ?_)) ?_
    · have r0 : ev (.tmp 1) = .pointer (some ⟨(N + 1), 0, none⟩) := hr (1, none) (by simp); have hk := he.1; clear hr he
      exact exec_load rfl r0 (fr_load (B1.out.kept hS.out (fun h => h)))
    refine VFrom.cons (VStep.call _ rfl _ rfl (.bool true) rfl rfl 14 #[frV 3 (.slice yx 2 dx), frV 3 (.slice (some ⟨N, 0, none⟩) 2 2)] (fun ev wq hS he hr => ?_) (fun wq hS => ?_)) ?_
    · have r0 : ev (.tmp 77) = frV 3 (.slice yx 2 dx) := hr (77, some 40) (by simp); have r1 : ev (.tmp 78) = frV 3 (.slice (some ⟨N, 0, none⟩) 2 2) := hr (78, some 41) (by simp); have hk := he.1; have hf := he.2; clear hr he
      go_simp
    · exact (CS.out _ _ wq (BX.out.kept hS.out (fun _ h => h)) (BA.out.kept hS.out (fun _ h => h))).mono fun e w' ⟨h1, h2⟩ => ⟨h1, hid (hS.out.trans h2 (fun _ _ h => h))⟩
    refine VFrom.cons (VStep.val _ rfl _ rfl (.bool true) rfl trivial (fun ev wq hS he hr => ?_)) ?_
    · have r0 : ev (.tmp 74) = .bool true := hr (74, some 37) (by simp); have r1 : ev (.tmp 79) = .bool true := hr (79, some 42) (by simp); have hk := he.1; clear hr he
      go_simp
    refine VFrom.cons (VStep.val _ rfl _ rfl (.bool true) rfl trivial (fun ev wq hS he hr => ?_)) ?_
    · have r0 : ev (.tmp 80) = .bool true := hr (80, some 43) (by simp); have hk := he.1; clear hr he
      go_simp
    refine VFrom.cons (VStep.val _ rfl _ rfl (frV 3 (.slice (some ⟨N, 0, none⟩) 2 2)) rfl rfl (fun ev wq hS he hr => ?_)) ?_
    · have r0 : ev (.tmp 1) = .pointer (some ⟨(N + 1), 0, none⟩) := hr (1, none) (by simp); have hk := he.1; clear hr he
      exact exec_load rfl r0 (fr_load (B1.out.kept hS.out (fun h => h)))
    refine VFrom.cons (VStep.call _ rfl _ rfl (.bool true) rfl rfl 12 #[frV 3 (.slice (some ⟨N, 0, none⟩) 2 2)] (fun ev wq hS he hr => ?_) (fun wq hS => ?_)) ?_
    · have r0 : ev (.tmp 82) = frV 3 (.slice (some ⟨N, 0, none⟩) 2 2) := hr (82, some 45) (by simp); have hk := he.1; have hf := he.2; clear hr he
      go_simp
    · exact (CR.out _ _ wq).mono fun e w' ⟨h1, h2⟩ => ⟨h1, hid (hS.out.trans h2 (fun _ _ h => h))⟩
    refine VFrom.cons (VStep.val _ rfl _ rfl (.bool true) rfl trivial (fun ev wq hS he hr => ?_)) ?_
    · have r0 : ev (.tmp 81) = .bool true := hr (81, some 44) (by simp); have r1 : ev (.tmp 83) = .bool true := hr (83, some 46) (by simp); have hk := he.1; clear hr he
      go_simp
    refine VFrom.cons (VStep.val _ rfl _ rfl (.bool true) rfl trivial (fun ev wq hS he hr => ?_)) ?_
    · have r0 : ev (.tmp 84) = .bool true := hr (84, some 47) (by simp); have hk := he.1; clear hr he
      go_simp
    exact VFrom.nil
  case hS => exact hid (Kp.refl Nb w11).drew
  case hend =>
    intro wy hy
    have K9 := hid (KK.out.trans hy.out (fun _ _ h => h))
    clear hy
    simp only [putAll, List.zip_cons_cons, List.zip_nil_right, List.foldl_cons, List.foldl_nil, Act.put, List.setIfInBounds_toArray, List.set_cons_zero, List.set_cons_succ]
    go_wp2
    go_ret
    exact ⟨rfl, K9.out⟩

end Go.Proofs.Ytmgmghlflldepaa
