/-
  Layer 19: plain: the reference's next, and that the program's is the same, though it looks at no more than 2061 bytes. Condition: bytes.
  Layer 19: the reference's bytes of a right frame. Conditions: bytes; a right frame.
  Layer 19: the walk of the reference's Next. Conditions: bytes; at most 100,000 of them.
-/
import Derived.Test.YtmgmghlflldepaaPkQ
import Derived.Test.YtmgmghlflldepaaRefI
import Derived.Test.YtmgmghlflldepaaPkR
import Derived.Test.YtmgmghlflldepaaRefE
import Derived.Lib.ConvBytes
namespace Go.Proofs.Ytmgmghlflldepaa
open Go.RowKit

theorem beTo_take (ys : List Int) (j : Nat) : ∀ k, k ≤ j → beTo (ys.take j) k = beTo ys k
  | 0, _ => rfl
  | k + 1, h => by
    unfold beTo
    rw [beTo_take ys j k (by omega), List.getElem?_take_of_lt (by omega)]
theorem firstOf_take (q : List Int) (hq : IsBytes q) (m : Nat) (hm : 9 ≤ m) : firstOf (q.take m) = firstOf q := by
  have h0 := hq 0
  have hl : (q.take m).length = min m q.length := List.length_take
  have hh : (q.take m)[0]?.getD 0 = q[0]?.getD 0 := by rw [List.getElem?_take_of_lt (by omega)]
  obtain ⟨x, hx⟩ : ∃ x, q[0]?.getD 0 = x := ⟨_, rfl⟩
  rw [hx] at h0 hh
  have hb : beTo ((q.take m).drop 1) (x - 247).toNat = beTo (q.drop 1) (x - 247).toNat := by
    rw [List.drop_take]
    exact beTo_take _ _ _ (by omega)
  unfold firstOf
  rw [hh, hx, hb, hl]
  by_cases h1 : q.length = 0
  · rw [if_pos (by omega), if_pos h1]
  · rw [if_neg (by omega), if_neg h1]
    by_cases h2 : x ≤ 247
    · rw [if_pos h2, if_pos h2]
    · rw [if_neg h2, if_neg h2]
      by_cases h3 : q.length < 1 + (x - 247).toNat
      · rw [if_pos (by omega), if_pos h3]
      · rw [if_neg (by omega), if_neg h3]
theorem firstOf_back (q : List Int) (hq : IsBytes q) (h : (firstOf q).2.2 = 0) : q = numBytes (firstOf q).1 ++ q.drop (firstOf q).2.1 ∧ 0 ≤ (firstOf q).1 ∧ (firstOf q).1 < 18446744073709551616 := by
  have h0 := hq 0
  unfold firstOf at h ⊢
  by_cases h1 : q.length = 0
  · rw [if_pos h1] at h; exact absurd h (by decide)
  · rw [if_neg h1] at h ⊢
    obtain ⟨x, hx⟩ : ∃ x, q[0]?.getD 0 = x := ⟨_, rfl⟩
    rw [hx] at h h0 ⊢
    by_cases h2 : x ≤ 247
    · rw [if_pos h2]
      refine ⟨?_, h0.1, by dsimp only; omega⟩
      dsimp only
      rw [numBytes_one x h2]
      cases q with
      | nil => simp at h1
      | cons y r =>
        have : y = x := by simpa using hx
        rw [this]
        rfl
    · rw [if_neg h2] at h ⊢
      by_cases h3 : q.length < 1 + (x - 247).toNat
      · rw [if_pos h3] at h; exact absurd h (by decide)
      · rw [if_neg h3] at h ⊢
        by_cases h4 : sizeN (beTo (q.drop 1) (x - 247).toNat) = 1 + (x - 247).toNat
        · rw [if_pos h4]
          dsimp only
          have hb := (first_back q hq (x - 247).toNat (by rw [hx]; omega) (by omega) (by omega)).2 h4
          refine ⟨by rw [hb, List.take_append_drop], (beTo_range _ _).1, (beTo_range _ _).2⟩
        · rw [if_neg h4] at h; exact absurd h (by decide)
theorem readN_ok' (q : List Int) (hq : IsBytes q) (most : Int) (h : (readN q 0 most).2.2 = 0) : q = numBytes (readN q 0 most).1 ++ (readN q 0 most).2.1 ∧ 0 ≤ (readN q 0 most).1 ∧ (readN q 0 most).1 < 18446744073709551616 ∧ (readN q 0 most).1 ≤ most := by
  unfold readN at h ⊢
  rw [if_neg (by simp)] at h ⊢
  by_cases h1 : (firstOf q).2.2 = 0
  · rw [if_neg (by rw [h1]; simp)] at h ⊢
    by_cases h2 : most < (firstOf q).1
    · rw [if_pos h2] at h; exact absurd h (by decide)
    · rw [if_neg h2]
      obtain ⟨a, b, c⟩ := firstOf_back q hq h1
      exact ⟨a, b, c, by dsimp only; omega⟩
  · rw [if_pos h1] at h; exact absurd h h1
theorem readN_zero (q : List Int) (most : Int) : readN q 0 most = if (firstOf q).2.2 ≠ 0 then (0, [], (firstOf q).2.2) else if most < (firstOf q).1 then (0, [], 12) else ((firstOf q).1, q.drop (firstOf q).2.1, 0) := by
  unfold readN
  rw [if_neg (by simp)]
theorem readN_bad (q : List Int) (hq : IsBytes q) (most : Int) (m : Nat) (hm : 9 ≤ m) (h : (readN q 0 most).2.2 ≠ 0) : readN (q.take m) 0 most = readN q 0 most := by
  have hf := firstOf_take q hq m hm
  rw [readN_zero] at h ⊢
  rw [readN_zero, hf]
  by_cases h1 : (firstOf q).2.2 = 0
  · by_cases h2 : most < (firstOf q).1
    · have h1n : ¬ (firstOf q).2.2 ≠ 0 := fun hh => hh h1
      simp only [if_neg h1n, if_pos h2]
    · have h1n : ¬ (firstOf q).2.2 ≠ 0 := fun hh => hh h1
      rw [if_neg h1n, if_neg h2] at h; exact absurd rfl h
  · rw [if_pos h1, if_pos h1]
theorem take_num (u : Int) (r : List Int) (m : Nat) (h : sizeN u ≤ m) : (numBytes u ++ r).take m = numBytes u ++ r.take (m - sizeN u) := by
  rw [List.take_append, numBytes_size, List.take_of_length_le (by rw [numBytes_size]; exact h)]

/-- What the frame's number and body leave: the bytes, the error. -/
def tB (q : List Int) : List Int × Int := if (readN q 0 14).1 = 0 then (failS (readN q 0 14).2.1 (readN q 0 14).2.2 11, failE (readN q 0 14).2.2 11) else (readN q 0 14).2
theorem failE_bad (e f : Int) (h : e ≠ 0) : failE e f = e := by unfold failE; rw [if_neg (fun hh => h hh.1)]
theorem failE_zero (f : Int) (h : f ≠ 0) : failE 0 f = f := by unfold failE; rw [if_pos ⟨rfl, h⟩]
theorem textN_bad (zs : List Int) (e most : Int) (h : e ≠ 0) : (textN zs e most).2.2 = e := by
  unfold textN
  have : readN zs e 18446744073709551615 = (0, zs, e) := by unfold readN; rw [if_pos h]
  rw [this, if_pos h]
theorem parse (q : List Int) (hq : IsBytes q) :
    (∃ (k : Int) (body t : List Int), q = k :: (numBytes body.length ++ (body ++ t)) ∧ rightF k body.length = true ∧ IsBytes body ∧ IsBytes t) ∨
    (∃ E : Int, E ≠ 0 ∧ (textN (tB q).1 (tB q).2 2048).2.2 = E ∧ (textN (tB (q.take 2060)).1 (tB (q.take 2060)).2 2048).2.2 = E) := by
  by_cases h1 : (readN q 0 14).2.2 = 0
  · obtain ⟨a1, a2, a3, a4⟩ := readN_ok' q hq 14 h1
    obtain ⟨k, hk⟩ : ∃ k, (readN q 0 14).1 = k := ⟨_, rfl⟩
    obtain ⟨r, hr⟩ : ∃ r, (readN q 0 14).2.1 = r := ⟨_, rfl⟩
    rw [hk] at a2 a3 a4
    have e1 : readN q 0 14 = (k, r, 0) := by rw [← hk, ← hr]; exact Prod.ext rfl (Prod.ext rfl h1)
    rw [hk, hr, numBytes_one k (by omega)] at a1
    have hrb : IsBytes r := by rw [a1] at hq; exact hq.tail
    have e2 : readN (q.take 2060) 0 14 = (k, r.take 2059, 0) := by
      rw [a1]
      have := readN_numBytes k 14 a2 a3 a4 (r.take 2059) (hrb.take _)
      rw [numBytes_one k (by omega)] at this
      exact this
    by_cases h0 : k = 0
    · refine .inr ⟨11, by decide, ?_, ?_⟩
      · unfold tB
        rw [e1, if_pos h0]
        dsimp only
        rw [failE_zero 11 (by decide)]
        exact textN_bad _ _ _ (by decide)
      · unfold tB
        rw [e2, if_pos h0]
        dsimp only
        rw [failE_zero 11 (by decide)]
        exact textN_bad _ _ _ (by decide)
    · have t1 : tB q = (r, 0) := by unfold tB; rw [e1, if_neg h0]
      have t2 : tB (q.take 2060) = (r.take 2059, 0) := by unfold tB; rw [e2, if_neg h0]
      rw [t1, t2]
      by_cases h2 : (readN r 0 18446744073709551615).2.2 = 0
      · obtain ⟨b1, b2, b3, -⟩ := readN_ok' r hrb 18446744073709551615 h2
        obtain ⟨u, hu⟩ : ∃ u, (readN r 0 18446744073709551615).1 = u := ⟨_, rfl⟩
        obtain ⟨s, hs⟩ : ∃ s, (readN r 0 18446744073709551615).2.1 = s := ⟨_, rfl⟩
        rw [hu] at b2 b3
        rw [hu, hs] at b1
        have f1 : readN r 0 18446744073709551615 = (u, s, 0) := by rw [← hu, ← hs]; exact Prod.ext rfl (Prod.ext rfl h2)
        have hsb : IsBytes s := by
          have := hrb.drop (numBytes u).length
          rw [b1, List.drop_left] at this
          exact this
        have hsz : sizeN u ≤ 9 := by have := numBytes_length u (by omega); rw [numBytes_size] at this; exact this
        have f2 : readN (r.take 2059) 0 18446744073709551615 = (u, s.take (2059 - sizeN u), 0) := by
          rw [b1, take_num u s 2059 (by omega)]
          exact readN_numBytes u _ b2 b3 (by omega) _ (hsb.take _)
        by_cases h3 : 2048 < u
        · refine .inr ⟨12, by decide, ?_, ?_⟩
          · unfold textN; dsimp only; rw [f1]; dsimp only; rw [if_neg (by simp), if_pos (.inr h3)]
          · unfold textN; dsimp only; rw [f2]; dsimp only; rw [if_neg (by simp), if_pos (.inr h3)]
        · obtain ⟨n, rfl⟩ : ∃ n : Nat, u = (n : Int) := ⟨u.toNat, by omega⟩
          have hs3 := sizeN_3 (n : Int) (by omega) (by omega)
          by_cases h4 : s.length < n
          · refine .inr ⟨10, by decide, ?_, ?_⟩
            · unfold textN; dsimp only; rw [f1]; dsimp only; rw [if_neg (by simp), if_neg (by omega), fixN_short _ _ h4]
            · unfold textN; dsimp only; rw [f2]; dsimp only; rw [if_neg (by simp), if_neg (by omega), fixN_short _ _ (by rw [List.length_take]; omega)]
          · have hl : (s.take n).length = n := by rw [List.length_take]; omega
            refine .inl ⟨k, s.take n, s.drop n, ?_, ?_, hsb.take _, hsb.drop _⟩
            · rw [hl, List.take_append_drop, ← b1]; exact a1
            · rw [hl]; unfold rightF; exact decide_eq_true (by omega)
      · obtain ⟨E, hE⟩ : ∃ E, (readN r 0 18446744073709551615).2.2 = E := ⟨_, rfl⟩
        refine .inr ⟨E, by rw [← hE]; exact h2, ?_, ?_⟩
        · unfold textN; dsimp only; rw [if_pos h2]; exact hE
        · unfold textN; dsimp only; rw [readN_bad r hrb _ 2059 (by omega) h2, if_pos h2]; exact hE
  · obtain ⟨E, hE⟩ : ∃ E, (readN q 0 14).2.2 = E := ⟨_, rfl⟩
    have hb := readN_bad q hq 14 2060 (by omega) h1
    have ht : (tB q).2 = E := by
      unfold tB
      split
      · dsimp only; rw [failE_bad _ _ h1]; exact hE
      · exact hE
    have ht2 : tB (q.take 2060) = tB q := by unfold tB; rw [hb]
    refine .inr ⟨E, by rw [← hE]; exact h1, ?_, ?_⟩
    · rw [textN_bad _ _ _ (by rw [ht, ← hE]; exact h1)]; exact ht
    · rw [ht2, textN_bad _ _ _ (by rw [ht, ← hE]; exact h1)]; exact ht

/-- The reference's next. -/
def rnK (zs : List Int) : Int × List Int × Int := readN (zs.drop 1) 0 14
def rnB (zs : List Int) : List Int × Int := if (rnK zs).2.2 = 0 ∧ (rnK zs).1 = 0 then (failS (rnK zs).2.1 (rnK zs).2.2 11, failE (rnK zs).2.2 11) else (rnK zs).2
def rnT (zs : List Int) : List Int × List Int × Int := textN (rnB zs).1 (rnB zs).2 2048
def rnX (zs : List Int) : List Int × List Int × Int := fixN (rnT zs).2.1 (rnT zs).2.2 8
def rnF (zs : List Int) : Int × List Int × Int × Int :=
  if zs = [] then (0, [], 0, 10) else if zs[0]?.getD 0 ≠ 71 then (0, [], 0, 11) else if (rnX zs).2.2 ≠ 0 then (0, [], 0, (rnX zs).2.2)
  else if zs.take (frameF (rnK zs).1 (rnT zs).1).length ≠ frameF (rnK zs).1 (rnT zs).1 then (0, [], 0, 14) else ((rnK zs).1, (rnT zs).1, ((frameF (rnK zs).1 (rnT zs).1).length : Int), 0)
theorem rnB_tB (q : List Int) : rnB (71 :: q) = tB q := by
  unfold rnB rnK tB
  rw [show (71 :: q).drop 1 = q from rfl]
  by_cases h0 : (readN q 0 14).1 = 0
  · by_cases h1 : (readN q 0 14).2.2 = 0
    · rw [if_pos ⟨h1, h0⟩, if_pos h0]
    · rw [if_neg (fun h => h1 h.1), if_pos h0, failE_bad _ _ h1]
      unfold failS
      rw [if_neg (fun h => h1 h.1)]
  · rw [if_neg (fun h => h0 h.2), if_neg h0]
theorem nxA_71 (q : List Int) : nxA (71 :: q) = (q, 0) := by
  unfold nxA
  rw [show fixN (71 :: q) 0 1 = _ from fixN_take (71 :: q) 1 (by simp)]
  simp [nx1]
theorem nxT_tB (q : List Int) : nxT (71 :: q) = textN (tB q).1 (tB q).2 2048 := by
  unfold nxT nxB nxK tB
  rw [nxA_71]
theorem rn_eq (zs : List Int) (hz : IsBytes zs) : rnF zs = nextF zs := by
  cases zs with
  | nil => rfl
  | cons x q =>
    by_cases hx : x = 71
    · subst hx
      rcases parse q hz.tail with ⟨k, body, t, rfl, hr, hb, ht⟩ | ⟨E, hE, h1, h2⟩
      · have rp := right_parts hr
        have e : (71 : Int) :: k :: (numBytes body.length ++ (body ++ t)) = aheadF k body ++ t := by rw [ahead_cons k body (by omega)]; simp
        have hK : rnK (71 :: k :: (numBytes body.length ++ (body ++ t))) = (k, numBytes body.length ++ (body ++ t), 0) := by
          unfold rnK
          have := readN_numBytes k 14 (by omega) (by omega) rp.2.1 (numBytes body.length ++ (body ++ t)) ((numBytes_bytes _ (by omega) (by omega)).append (hb.append ht))
          rw [numBytes_one k (by omega)] at this
          exact this
        have hT : rnT (71 :: k :: (numBytes body.length ++ (body ++ t))) = (body, t, 0) := by
          unfold rnT rnB
          rw [hK]
          dsimp only
          rw [if_neg (by omega)]
          exact textN_tail body t rp.2.2 hb ht
        have hX : rnX (71 :: k :: (numBytes body.length ++ (body ++ t))) = fixN t 0 8 := by unfold rnX; rw [hT]
        unfold rnF
        rw [hX, hT, hK, if_neg (by simp), if_neg (by simp), e, next_tail k body t hb ht hr]
        by_cases hl : t.length < 8
        · rw [show fixN t 0 8 = _ from fixN_short t 8 hl, if_pos (by decide), if_pos hl]
        · rw [show fixN t 0 8 = _ from fixN_take t 8 (by omega), if_neg (by simp), if_neg hl]
          dsimp only
          have ef : (aheadF k body ++ t).take (frameF k body).length = aheadF k body ++ t.take 8 := by
            have hlen : (frameF k body).length = (aheadF k body).length + 8 := by unfold frameF; rw [List.length_append, sumF_length]
            rw [hlen, List.take_append, List.take_of_length_le (by omega), Nat.add_sub_cancel_left]
          rw [ef]
          by_cases hs : t.take 8 = sumF (aheadF k body)
          · rw [if_neg (by rw [hs]; exact fun h => h rfl), if_pos hs]
          · rw [if_pos (fun h => hs (List.append_cancel_left (by unfold frameF at h; exact h))), if_neg hs]
      · have hTr : (rnT (71 :: q)).2.2 = E := by unfold rnT; rw [rnB_tB]; exact h1
        have hX : (rnX (71 :: q)).2.2 = E := by unfold rnX; rw [fixN_bad _ _ _ (by rw [hTr]; exact hE)]; exact hTr
        have hN : nxE ((71 :: q).take 2061) = E := by
          have e2 : (nxT ((71 :: q).take 2061)).2.2 = E := by
            rw [show (71 :: q).take 2061 = 71 :: q.take 2060 from rfl, nxT_tB]; exact h2
          rw [nxE_bad (by rw [e2]; exact hE), e2]
        rw [next_err rfl hN hE]
        unfold rnF
        rw [if_neg (by simp), if_neg (by simp), if_pos (by rw [hX]; exact hE), hX]
    · have hE : nxE ((x :: q).take 2061) = 11 := by
        have hA : (nxA ((x :: q).take 2061)).2 = 11 := by
          rw [show (x :: q).take 2061 = x :: q.take 2060 from rfl]
          unfold nxA
          rw [show fixN (x :: q.take 2060) 0 1 = _ from fixN_take (x :: q.take 2060) 1 (by simp)]
          simp [nx1, hx, failE]
        have hK : (nxK ((x :: q).take 2061)) = (0, (nxA ((x :: q).take 2061)).1, 11) := by unfold nxK readN; rw [hA, if_pos (by decide)]
        have hB : (nxB ((x :: q).take 2061)).2 = 11 := by unfold nxB; rw [hK, if_pos rfl]; dsimp only; exact failE_bad 11 11 (by decide)
        have hT : (nxT ((x :: q).take 2061)).2.2 = 11 := by unfold nxT; rw [textN_bad _ _ _ (by rw [hB]; decide)]; exact hB
        rw [nxE_bad (by rw [hT]; decide), hT]
      rw [next_err rfl hE (by decide)]
      unfold rnF
      rw [if_neg (by simp), if_pos (by simpa using hx)]

end Go.Proofs.Ytmgmghlflldepaa

namespace Go.Proofs.Ytmgmghlflldepaa
open Go.RowKit Go.Shelf
attribute [local go_sem] Oper.semAt_some

theorem eight_sum (zs : List Int) : eightOf (hash (seedA 5) (seedB 5) zs) = sumF zs := rfl
theorem by_one {S : Nat → Prop} {w : World} {B : Nat} {z : Int} (hz : 0 ≤ z ∧ z < 256) (h : Blk w B 5 [.int .u8 z]) (hS : ¬ S B) : BySl S w (.slice (some ⟨B, 0, none⟩) 1 1) [z] := by
  refine ⟨IsBytes.one hz.1 hz.2, .inr ⟨B, 0, 1, rfl, Nat.le_refl _, by unfold maxLen; omega, fun i hi => ?_, fun _ => hS⟩⟩
  have e : i = 0 := by simp at hi; omega
  subst e
  exact h.cell 0
theorem f8_make (w : World) (x : Int) : (Instr.buildSlice 22 1 #[(0, .int .u8 x)]).run Try.prog w = .ok (.slice (some ⟨w.heap.size, 0, none⟩) 1 1) (w.alloc (.cells #[.int .u8 x] 5 (0, 0))) := by go_simp
theorem exec_convert {P : Program} {ev : Operand → Value} {o : Oper} {T U : TypeId} {x : Operand} {v r : Value} {w w' : World} (ho : o.op = .convert T U x) (hx : ev x = v) (hl : (convert T U v).run P w = .ok r w') : (execOp ev o).run P w = .ok (.value r) w' := by
  unfold execOp
  simp only [ho, hx, Sem.run_bind, Sem.run_pure, Result.andThen_ok, hl]
/-- The made byte's slice. -/
structure RbS (W : World) (k : Int) (bs : List Bool) (g : Value) (w : World) : Prop where
  kp : Kp Nb W w
  made : bs[0]?.getD false = true → ∃ B, g = .slice (some ⟨B, 0, none⟩) 1 1 ∧ Blk w B 5 [.int .u8 k]
theorem RbS.keptN {W w w' : World} {k : Int} {bs : List Bool} {g : Value} (h : RbS W k bs g w) (kn : Kp Nb w w') : RbS W k bs g w' :=
  ⟨h.kp.trans kn (fun _ _ h => h), fun e => by obtain ⟨B, h1, h2⟩ := h.made e; exact ⟨B, h1, h2.kept kn (fun h => h)⟩⟩

set_option maxRecDepth 100000 in
set_option maxHeartbeats 8000000 in
theorem rbytes_any (k : Int) (v : Value) (zs : List Int) (w : World) (hv : BySl Nb w v zs) (hr : rightF k zs.length = true) :
    Calls Try.prog 9 #[frV k v] w fun e w' => e = .returned (.string (st (frameF k zs))) ∧ Kp Nb w w' := by
  obtain ⟨y, d, rfl⟩ := hv.shp
  have rp := right_parts hr
  have hs3 := sizeN_3 zs.length (by omega) (by omega)
  obtain ⟨L, hL⟩ : ∃ L, zs.length = L := ⟨_, rfl⟩
  have hwk : IntKind.u8.wrap k = k := by rw [IntKind.wrap_u8]; omega
  have HWK := hid hwk
  rw [hL] at rp hs3
  have HK : Hid (0 ≤ k ∧ k < 256) := hid (by omega)
  obtain ⟨N, hN⟩ : ∃ N, w.heap.size = N := ⟨_, rfl⟩
  obtain ⟨W, hW⟩ : ∃ W, W = w.alloc (.cells (frL k (.slice y L d)).toArray 24) := ⟨_, rfl⟩
  rw [hL] at hv ⊢
  have HB : Hid (Blk W N 24 (frL k (.slice y L d))) := hid (by rw [hW, ← hN]; exact Blk.new w _ _)
  have k0 : Kp Nb w W := by rw [hW]; exact (Kp.refl Nb w).alloc _
  have K0 := hid k0
  have HV := hid (hv.kept k0 (fun _ h => h))
  -- the strings
  obtain ⟨S1, hS1⟩ : ∃ s, st [k] = s := ⟨_, rfl⟩
  obtain ⟨SA, hSA⟩ : ∃ s, (⟨#[71]⟩ : ByteArray) ++ S1 = s := ⟨_, rfl⟩
  obtain ⟨S2, hS2⟩ : ∃ s, st zs = s := ⟨_, rfl⟩
  obtain ⟨S3, hS3⟩ : ∃ s, st (numBytes L ++ zs) = s := ⟨_, rfl⟩
  obtain ⟨SB, hSB⟩ : ∃ s, SA ++ S3 = s := ⟨_, rfl⟩
  have eSA : SA = st [71, k] := by rw [← hSA, ← hS1]; exact (st_append [71] [k]).symm
  have eSB : SB = st (aheadF k zs) := by
    rw [← hSB, eSA, ← hS3, ← st_append, ahead_cons k zs (by omega), hL]
    rfl
  have z1 : S1.size = 1 := by rw [← hS1, st_size]; rfl
  have zA : SA.size = 2 := by rw [eSA, st_size]; rfl
  have z3 : S3.size = sizeN L + L := by rw [← hS3, st_size, List.length_append, numBytes_size, hL]
  have zB : SB.size ≤ 2053 := by rw [eSB, st_size]; exact ahead_le k zs hr
  have G1 : Hid (¬ (9223372036854775807 < (⟨#[71]⟩ : ByteArray).size + S1.size)) := hid (by rw [z1]; decide)
  have G1' : Hid (1 + S1.size ≤ 9223372036854775807) := hid (by rw [z1]; decide)
  have G2 : Hid (¬ (9223372036854775807 < SA.size + S3.size)) := hid (by rw [zA, z3]; omega)
  have HSA := hid hSA
  have HSB := hid hSB
  have CV1 : Hid (∀ w v, BySl Nb w v [k] → (convert 22 9 v).run Try.prog w = .ok (.string S1) w) := hid (fun w v h => by rw [← hS1]; exact conv_any h)
  have CV2 : Hid (∀ w v, BySl Nb w v zs → (convert 22 9 v).run Try.prog w = .ok (.string S2) w) := hid (fun w v h => by rw [← hS2]; exact conv_any h)
  have CT : Hid (∀ w, Calls Try.prog 19 #[.string S2] w fun e w' => e = .returned (.string S3) ∧ Kp Nb w w') := hid (fun w => by
    have h := refn_text zs w (by omega)
    rw [hL, hS2, hS3] at h
    exact h)
  obtain ⟨sa, hsa⟩ : ∃ s, seedA 5 = s := ⟨_, rfl⟩
  obtain ⟨sb, hsb⟩ : ∃ s, seedB 5 = s := ⟨_, rfl⟩
  obtain ⟨h, hh⟩ : ∃ h, hash (seedA 5) (seedB 5) (aheadF k zs) = h := ⟨_, rfl⟩
  have hhr : 0 ≤ h ∧ h < 18446744073709551616 := by rw [← hh]; exact hash_range _ _ _
  obtain ⟨S4, hS4⟩ : ∃ s, st (eightOf h) = s := ⟨_, rfl⟩
  have z4 : S4.size = 8 := by rw [← hS4, st_size, eightOf_length]
  have CSE : Hid (∀ w, Calls Try.prog 22 #[.int .i64 5] w fun e w' => e = .returned (.agg #[.int .u64 sa, .int .u64 sb]) ∧ Kp Nb w w') := hid (fun w => by rw [← hsa, ← hsb]; exact ref_seed 5 w)
  have CH : Hid (∀ w, Calls Try.prog 21 #[.agg #[.int .u64 sa, .int .u64 sb], .string SB] w fun e w' => e = .returned (.int .u64 h) ∧ Kp Nb w w') := hid (fun w => by
    have g := ref_hash (seedA 5) (seedB 5) (aheadF k zs) w (ahead_bytes k zs hv.1 hr) (by have := ahead_le k zs hr; omega)
    rw [hh, hsa, hsb, ← eSB] at g
    exact g)
  have CE : Hid (∀ w, Calls Try.prog 20 #[.int .u64 h] w fun e w' => e = .returned (.string S4) ∧ Kp Nb w w') := hid (fun w => by rw [← hS4]; exact ref_eight h w hhr.1 hhr.2)
  have EF : Hid (SB ++ S4 = st (frameF k zs)) := hid (by
    unfold frameF
    rw [st_append, ← eSB, ← eight_sum, hh, hS4])
  have G3 : Hid (¬ (9223372036854775807 < SB.size + S4.size)) := hid (by rw [z4]; omega)
  clear hv hr rp hs3 hL hwk k0 hS1 hSA hS2 hS3 hSB eSA eSB z1 zA z3 zB hsa hsb hh hhr hS4 z4
  go_enter Try.func9, Try.ntmps9
  go_upto_region 1 with fail
  rw [show w.alloc (.cells #[.int .i64 k, .slice y L d] 24) = W from hW.symm]
  clear hW hN
  refine region_ghost (g0 := (undef : Value)) [none, none, none, some 11, some 0, some 1, some 2, some 3, some 4, some 5, some 6, some 7, some 8, some 9, some 10, none, none, none, none, none, none] [[(1, none)], [(4, some 0)], [(5, some 1)], [(6, some 2)], [(7, some 3)], [(8, some 4)], [(1, none)], [(10, some 6)], [(11, some 7)], [(12, some 8)], [(9, some 5), (13, some 9)], [(14, some 10)]] [some 4, some 5, some 6, some 7, some 8, some 9, some 10, some 11, some 12, some 13, some 14, some 3] (fun g => [.pointer (some ⟨N, 0, none⟩), .int .i64 k, .int .u8 k, g, .string S1, .string SA, .pointer (some ⟨N, 1, none⟩), .slice y L d, .string S2, .string S3, .string SB, .string SB]) [3] (fun bs g wq => Hid (RbS W k bs g wq)) (by kernel_rfl) (by kernel_rfl) (fun g => by kernel_rfl) (by kernel_rfl) ?hS (GFrom.all (n := 12) (by kernel_rfl) ?hstep) ?hend
  case hstep =>
    refine GFrom.cons (GStep.val _ rfl rfl _ rfl (fun g => .pointer (some ⟨N, 0, none⟩)) (fun _ => rfl) (fun _ => trivial) (fun bs g ev wq hS he hr => ?_)) ?_
    · have r0 : ev (.tmp 1) = .pointer (some ⟨N, 0, none⟩) := hr (1, none) (by simp); have hk := he.1; clear hr he
      go_simp
    refine GFrom.cons (GStep.val _ rfl rfl _ rfl (fun g => .int .i64 k) (fun _ => rfl) (fun _ => trivial) (fun bs g ev wq hS he hr => ?_)) ?_
    · have r0 : ev (.tmp 4) = .pointer (some ⟨N, 0, none⟩) := hr (4, some 0) (by simp); have hk := he.1; clear hr he
      have c0 := (HB.out.kept hS.out.kp (fun h => h)).cell 0
      go_simp
    refine GFrom.cons (GStep.val _ rfl rfl _ rfl (fun g => .int .u8 k) (fun _ => rfl) (fun _ => trivial) (fun bs g ev wq hS he hr => ?_)) ?_
    · have r0 : ev (.tmp 5) = .int .i64 k := hr (5, some 1) (by simp); have hk := he.1; clear hr he
      have e1 := HWK.out
      go_simp
    refine GFrom.cons (GStep.make _ rfl _ rfl (fun _ => trivial) (fun Lx g ev wq hL hd hcl hS he hr => ?_)) ?_
    · have r0 : ev (.tmp 6) = .int .u8 k := hr (6, some 2) (by simp); clear hr he
      have e2 : bitsAt [3] (upd Lx 3) = [true] := by simp [bitsAt, upd]
      refine ⟨.slice (some ⟨wq.heap.size, 0, none⟩) 1 1, .slice (some ⟨wq.heap.size, 0, none⟩) 1 1, _, exec_buildSliceF (qs := #[(0, .int .u8 k)]) rfl (by simp [r0]) (f8_make wq k), rfl, old_setF _ hL rfl, ?_⟩
      rw [e2]
      exact hid ⟨hS.out.kp.alloc _, fun _ => ⟨_, rfl, Blk.new wq _ [.int .u8 k]⟩⟩
    refine GFrom.cons (GStep.make _ rfl _ rfl (fun _ => trivial) (fun Lx g ev wq hL hd hcl hS he hr => ?_)) ?_
    · have r0 : ev (.tmp 7) = g := hr (7, some 3) (by simp); clear hr he
      have l3 : Lx 3 = true := hd 3 (by kernel_rfl)
      have e : bitsAt [3] Lx = [true] := by simp [bitsAt, l3]
      have e2 : bitsAt [3] (upd Lx 4) = [true] := by simp [bitsAt, upd, l3]
      rw [e] at hS
      obtain ⟨B, hB, hB2⟩ := hS.out.made rfl
      subst hB
      exact ⟨.string S1, _, _, exec_convert rfl r0 (CV1.out wq _ (by_one HK.out hB2 (fun h => h))), rfl, old_setF _ hL rfl, by rw [e2]; exact hS⟩
    refine GFrom.cons (GStep.val _ rfl rfl _ rfl (fun g => .string SA) (fun _ => rfl) (fun _ => trivial) (fun bs g ev wq hS he hr => ?_)) ?_
    · have r0 : ev (.tmp 8) = .string S1 := hr (8, some 4) (by simp); have hk := he.1; clear hr he
      have e1 := HSA.out; have e2 := G1.out; have e3 := G1'.out
      go_simp
    refine GFrom.cons (GStep.val _ rfl rfl _ rfl (fun g => .pointer (some ⟨N, 1, none⟩)) (fun _ => rfl) (fun _ => trivial) (fun bs g ev wq hS he hr => ?_)) ?_
    · have r0 : ev (.tmp 1) = .pointer (some ⟨N, 0, none⟩) := hr (1, none) (by simp); have hk := he.1; clear hr he
      go_simp
    refine GFrom.cons (GStep.val _ rfl rfl _ rfl (fun g => .slice y L d) (fun _ => rfl) (fun _ => trivial) (fun bs g ev wq hS he hr => ?_)) ?_
    · have r0 : ev (.tmp 10) = .pointer (some ⟨N, 1, none⟩) := hr (10, some 6) (by simp); have hk := he.1; clear hr he
      have c0 := (HB.out.kept hS.out.kp (fun h => h)).cell 1
      go_simp
    refine GFrom.cons (GStep.val _ rfl rfl _ rfl (fun g => .string S2) (fun _ => rfl) (fun _ => trivial) (fun bs g ev wq hS he hr => ?_)) ?_
    · have r0 : ev (.tmp 11) = .slice y L d := hr (11, some 7) (by simp); have hk := he.1; clear hr he
      exact exec_convert rfl r0 (CV2.out wq _ (HV.out.kept hS.out.kp (fun _ h => h)))
    refine GFrom.cons (GStep.call _ rfl rfl _ rfl (fun g => .string S3) (fun _ => rfl) (fun _ => trivial) 19 (fun g => #[.string S2]) (fun bs g ev wq hS he hr => ?_) (fun L g wq hd hL hS => ?_)) ?_
    · have r0 : ev (.tmp 12) = .string S2 := hr (12, some 8) (by simp); have hk := he.1; have hf := he.2; clear hr he
      go_simp
    · exact (CT.out wq).mono fun e w' ⟨h1, h2⟩ => ⟨h1, hid (hS.out.keptN h2)⟩
    refine GFrom.cons (GStep.val _ rfl rfl _ rfl (fun g => .string SB) (fun _ => rfl) (fun _ => trivial) (fun bs g ev wq hS he hr => ?_)) ?_
    · have r0 : ev (.tmp 9) = .string SA := hr (9, some 5) (by simp); have r1 : ev (.tmp 13) = .string S3 := hr (13, some 9) (by simp); have hk := he.1; clear hr he
      have e1 := HSB.out; have e2 := G2.out
      go_simp
    refine GFrom.cons (GStep.val _ rfl rfl _ rfl (fun g => .string SB) (fun _ => rfl) (fun _ => trivial) (fun bs g ev wq hS he hr => ?_)) ?_
    · have r0 : ev (.tmp 14) = .string SB := hr (14, some 10) (by simp); have hk := he.1; clear hr he
      go_simp
    exact GFrom.nil
  case hS => exact hid ⟨(Kp.refl Nb W).drew, fun h => by simp at h⟩
  case hend =>
    intro g w2 h2
    have k2 := h2.out.kp
    have K2 := hid (K0.out.trans k2 (fun _ _ h => h))
    clear k2 h2
    simp only [putAll, List.zip_cons_cons, List.zip_nil_right, List.foldl_cons, List.foldl_nil, Act.put, List.setIfInBounds_toArray, List.set_cons_zero, List.set_cons_succ]
    go_wp2_with fail
    refine (CSE.out _).mono ?_
    rintro e w3 ⟨rfl, k3⟩
    have K3 := hid (K2.out.trans k3 (fun _ _ h => h))
    clear k3
    go_wp2_with fail
    refine (CH.out _).mono ?_
    rintro e w4 ⟨rfl, k4⟩
    have K4 := hid (K3.out.trans k4 (fun _ _ h => h))
    clear k4
    go_wp2_with fail
    refine (CE.out _).mono ?_
    rintro e w5 ⟨rfl, k5⟩
    have K5 := hid (K4.out.trans k5 (fun _ _ h => h))
    have g3 := G3.out
    clear k5
    go_wp2
    go_ret
    exact ⟨by rw [EF.out]; rfl, K5.out⟩

end Go.Proofs.Ytmgmghlflldepaa

namespace Go.Proofs.Ytmgmghlflldepaa
open Go.RowKit Go.Shelf
attribute [local go_sem] Oper.semAt_some

theorem str_under : ∃ u, Try.prog.underlying 9 = some u := ⟨_, Try.underlying9⟩
theorem conv_str (zs : List Int) (hz : IsBytes zs) (hl : zs.length ≤ 1000000) (w : World) : ∃ (y : Option Addr) (c : Nat) (w' : World), (convert 9 22 (.string (st zs))).run Try.prog w = .ok (.slice y zs.length c) w' ∧ BySl Nb w' (.slice y zs.length c) zs ∧ Kp Nb w w' := by
  obtain ⟨u, hu⟩ := str_under
  have h := Lib.run_convert_string_bytes (P := Try.prog) w 9 22 5 (st zs) hu Try.underlying22 Try.underlying5
  rw [st_size] at h
  refine ⟨_, _, _, h, ⟨hz, .inr ⟨w.heap.size, 0, _, rfl, grownCap_ge _ _ _ _, grownCap_le_maxLen _ _ _ _ (by unfold maxLen; omega), fun i hi => ?_, fun _ h => h⟩⟩, ⟨?_, ?_, ?_, ?_, fun k hk _ => Lib.bytesWorld_at_old _ _ _ _ hk⟩⟩
  · rw [Nat.zero_add, Lib.bytesWorld_cell _ _ _ i (by rw [st_size]; exact hi)]
    congr 2
    have e : (st zs).data.toList = zs.map fun z => UInt8.ofNat z.toNat := by simp [st]
    rw [e]
    have hi' : i < (zs.map fun z => UInt8.ofNat z.toNat).length := by rw [List.length_map]; exact hi
    rw [List.getD_eq_getElem?_getD, List.getElem?_eq_getElem hi', List.getElem_map, Option.getD_some, UInt8.toNat_ofNat', List.getElem?_eq_getElem hi, Option.getD_some]
    have := hz i
    rw [List.getElem?_eq_getElem hi, Option.getD_some] at this
    omega
  · simp [Lib.bytesWorld, World.freeze, World.alloc, World.drew, -World.alloc_eq, -World.drew_eq]
  · simp [Lib.bytesWorld, World.freeze, World.alloc, World.drew, -World.alloc_eq, -World.drew_eq]
  · simp [Lib.bytesWorld, World.freeze, World.alloc, World.drew, -World.alloc_eq, -World.drew_eq]
  · rw [Lib.bytesWorld_size]; omega

theorem frN_bytes (zs : List Int) (e most : Int) (h : IsBytes zs) : IsBytes (readN zs e most).2.1 := by
  unfold readN
  split
  · exact h
  · split
    · exact fun i => by simp
    · split
      · exact fun i => by simp
      · exact h.drop _
theorem frX_bytes (zs : List Int) (e n : Int) (hz : IsBytes zs) : IsBytes (fixN zs e n).1 ∧ IsBytes (fixN zs e n).2.1 := by
  unfold fixN
  split
  · exact ⟨fun i => by simp, hz⟩
  · split
    · exact ⟨fun i => by simp, fun i => by simp⟩
    · split
      · exact ⟨fun i => by simp, fun i => by simp⟩
      · exact ⟨hz.take _, hz.drop _⟩
theorem frX_le (zs : List Int) (e n : Int) : (fixN zs e n).1.length ≤ zs.length := by
  unfold fixN
  split
  · simp
  · split
    · simp
    · split
      · simp
      · rw [List.length_take]; omega
theorem frT_ok (zs : List Int) (e most : Int) (hz : IsBytes zs) : (IsBytes (textN zs e most).1 ∧ IsBytes (textN zs e most).2.1) ∧ (textN zs e most).1.length ≤ zs.length := by
  have h1 := frN_bytes zs e 18446744073709551615 hz
  have h2 := readN_le zs e 18446744073709551615
  unfold textN
  split
  · exact ⟨⟨fun i => by simp, h1⟩, by simp⟩
  · split
    · exact ⟨⟨fun i => by simp, fun i => by simp⟩, by simp⟩
    · exact ⟨frX_bytes _ _ _ h1, Nat.le_trans (frX_le _ _ _) h2⟩

theorem rn_nil : rnF [] = (0, [], 0, 10) := rfl
theorem rn_not {zs : List Int} (h : zs ≠ []) (hx : zs[0]?.getD 0 ≠ 71) : rnF zs = (0, [], 0, 11) := by unfold rnF; rw [if_neg h, if_pos hx]
theorem rn_err {zs : List Int} {E : Int} (h : zs ≠ []) (hx : zs[0]?.getD 0 = 71) (hE : (rnX zs).2.2 = E) (h0 : E ≠ 0) : rnF zs = (0, [], 0, E) := by unfold rnF; rw [if_neg h, if_neg (fun hh => hh hx), if_pos (by rw [hE]; exact h0), hE]

set_option maxRecDepth 100000 in
set_option maxHeartbeats 4000000 in
theorem rnext_nil (w : World) : Calls Try.prog 17 #[.string (st [])] w fun e w' => ∃ b, e = .returned (.tuple #[frV (rnF []).1 b, .int .i64 (rnF []).2.2.1, .int .i64 (rnF []).2.2.2]) ∧ BySl Nb w' b (rnF []).2.1 ∧ Kp Nb w w' := by
  have he := st_empty []
  obtain ⟨S, hS⟩ : ∃ s, st [] = s := ⟨_, rfl⟩
  rw [hS] at he ⊢
  rw [decide_eq_true rfl] at he
  obtain ⟨R0, hR0⟩ : ∃ N, N = w.heap.size := ⟨_, rfl⟩
  obtain ⟨W, hW⟩ : ∃ W, W = w.alloc (.cells (frL 0 (.slice none 0 0)).toArray 24) := ⟨_, rfl⟩
  have HR0 : Hid (Blk W R0 24 (frL 0 (.slice none 0 0))) := hid (by rw [hW, hR0]; exact Blk.new _ _ _)
  have K0 : Hid (Kp Nb w W) := hid (by rw [hW]; exact (Kp.refl Nb w).alloc _)
  have LR0 : Hid (w.heap.size ≤ R0) := hid (Nat.le_of_eq hR0.symm)
  have TH := hid (HR0.out.there 0 2 (Nat.le_refl _))
  have H9 : Hid (Blk (W.setCells R0 0 (frL 0 (.slice none 0 0))) R0 24 (frL 0 (.slice none 0 0))) := hid (row_set HR0.out rfl)
  have K9 : Hid (Kp Nb w (W.setCells R0 0 (frL 0 (.slice none 0 0)))) := hid (Kp.setCells (fun h => absurd h (Nat.not_lt.2 LR0.out)) _ _ _ K0.out)
  clear hS
  go_enter Try.func17, Try.ntmps17
  go_upto_region 1 with fail
  rw [show w.alloc (.cells #[.int .i64 0, .slice none 0 0] 24) = W from hW.symm, ← hR0]
  clear hW hR0
  go_wp2_with (refine wpList_store_mid (by rfl) 24 (.tmp 2) (.tmp 10) (by rfl) R0 0 (frL 0 (.slice none 0 0)).toArray (by rfl) (by rfl) TH.out fr_info (all_oneCell_toArray (frL_one _ _)) ?_)
  refine bodyPost_ret (results_ctt rfl _ R0 (by rfl) (frV 0 (.slice none 0 0)) (fr_loadVar H9.out)) rfl ?_
  exact ⟨.slice none 0 0, rfl, BySl.none _, K9.out⟩

set_option maxRecDepth 100000 in
set_option maxHeartbeats 4000000 in
theorem rnext_not (zs : List Int) (w : World) (hz : IsBytes zs) (hne : zs ≠ []) (hx : zs[0]?.getD 0 ≠ 71) : Calls Try.prog 17 #[.string (st zs)] w fun e w' => ∃ b, e = .returned (.tuple #[frV (rnF zs).1 b, .int .i64 (rnF zs).2.2.1, .int .i64 (rnF zs).2.2.2]) ∧ BySl Nb w' b (rnF zs).2.1 ∧ Kp Nb w w' := by
  rw [rn_not hne hx]
  have he := st_empty zs
  have hi0 : ∀ w, (Instr.index 9 (.string (st zs)) (.int .i64 0)).run Try.prog w = .ok (.int .u8 (zs[0]?.getD 0)) w := fun w => idx_any zs w hz 0 (List.length_pos_iff.2 hne)
  obtain ⟨S, hS⟩ : ∃ s, st zs = s := ⟨_, rfl⟩
  rw [hS] at he hi0 ⊢
  rw [decide_eq_false hne] at he
  obtain ⟨x, hx2⟩ : ∃ x, zs[0]?.getD 0 = x := ⟨_, rfl⟩
  rw [hx2] at hi0 hx
  have g1 : (x != 71) = true := by rw [bne_iff_ne]; exact hx
  obtain ⟨R0, hR0⟩ : ∃ N, N = w.heap.size := ⟨_, rfl⟩
  obtain ⟨W, hW⟩ : ∃ W, W = w.alloc (.cells (frL 0 (.slice none 0 0)).toArray 24) := ⟨_, rfl⟩
  have HR0 : Hid (Blk W R0 24 (frL 0 (.slice none 0 0))) := hid (by rw [hW, hR0]; exact Blk.new _ _ _)
  have K0 : Hid (Kp Nb w W) := hid (by rw [hW]; exact (Kp.refl Nb w).alloc _)
  have LR0 : Hid (w.heap.size ≤ R0) := hid (Nat.le_of_eq hR0.symm)
  have TH := hid (HR0.out.there 0 2 (Nat.le_refl _))
  have H9 : Hid (Blk (W.setCells R0 0 (frL 0 (.slice none 0 0))) R0 24 (frL 0 (.slice none 0 0))) := hid (row_set HR0.out rfl)
  have K9 : Hid (Kp Nb w (W.setCells R0 0 (frL 0 (.slice none 0 0)))) := hid (Kp.setCells (fun h => absurd h (Nat.not_lt.2 LR0.out)) _ _ _ K0.out)
  clear hS hx2 hx
  go_enter Try.func17, Try.ntmps17
  go_upto_region 1 with fail
  rw [show w.alloc (.cells #[.int .i64 0, .slice none 0 0] 24) = W from hW.symm, ← hR0]
  clear hW hR0
  go_wp2_with (refine wpList_store_mid (by rfl) 24 (.tmp 2) (.tmp 14) (by rfl) R0 0 (frL 0 (.slice none 0 0)).toArray (by rfl) (by rfl) TH.out fr_info (all_oneCell_toArray (frL_one _ _)) ?_)
  refine bodyPost_ret (results_ctt rfl _ R0 (by rfl) (frV 0 (.slice none 0 0)) (fr_loadVar H9.out)) rfl ?_
  exact ⟨.slice none 0 0, rfl, BySl.none _, K9.out⟩



set_option maxRecDepth 100000 in
set_option maxHeartbeats 16000000 in
theorem rnext_71 (zs : List Int) (w : World) (hz : IsBytes zs) (hne : zs ≠ []) (hx : zs[0]?.getD 0 = 71) (hl : zs.length ≤ 100000) : Calls Try.prog 17 #[.string (st zs)] w fun e w' => ∃ b, e = .returned (.tuple #[frV (rnF zs).1 b, .int .i64 (rnF zs).2.2.1, .int .i64 (rnF zs).2.2.2]) ∧ BySl Nb w' b (rnF zs).2.1 ∧ Kp Nb w w' := by
  have he := st_empty zs
  have h1l : 1 ≤ zs.length := List.length_pos_iff.2 hne
  have hi0 : ∀ w, (Instr.index 9 (.string (st zs)) (.int .i64 0)).run Try.prog w = .ok (.int .u8 71) w := fun w => by have h := idx_any zs w hz 0 h1l; rw [hx] at h; exact h
  have hs1 : ∀ w, (Instr.slice 9 (.string (st zs)) (some (.int .i64 1)) none none).run Try.prog w = .ok (.string (st (zs.drop 1))) w := fun w => sl_l zs 1 h1l w
  -- the parts
  obtain ⟨kk, hk⟩ : ∃ x, rnK zs = x := ⟨_, rfl⟩
  obtain ⟨k, r, ek⟩ := kk
  have hKb : 0 ≤ k ∧ k ≤ 14 := by
    have h := readN_rng (zs.drop 1) 0 14 (by decide) (hz.drop 1)
    rw [show readN (zs.drop 1) 0 14 = _ from hk] at h
    exact h
  have hKz : IsBytes r := by
    have h := frN_bytes (zs.drop 1) 0 14 (hz.drop 1)
    rw [show readN (zs.drop 1) 0 14 = _ from hk] at h
    exact h
  have hKl : r.length ≤ 100000 := by
    have h := readN_le (zs.drop 1) 0 14
    rw [show readN (zs.drop 1) 0 14 = _ from hk, List.length_drop] at h
    dsimp only at h
    omega
  have HKB := hid hKb
  have CN : Hid (∀ B w, RefAt w B (zs.drop 1) 0 → Calls Try.prog 31 #[.pointer (some ⟨B, 0, none⟩), .int .u64 14] w fun r' w' => r' = .returned (.int .u64 k) ∧ RefAt w' B r ek ∧ Kp (Jb B) w w') := hid (fun B w h => by
    have h2 := refi_number B (zs.drop 1) 0 14 w h (hz.drop 1)
    rw [show readN (zs.drop 1) 0 14 = _ from hk] at h2
    exact h2)
  obtain ⟨bb, hb⟩ : ∃ x, rnB zs = x := ⟨_, rfl⟩
  obtain ⟨rb, eb⟩ := bb
  have hb2 := hb
  unfold rnB at hb2
  rw [hk] at hb2
  dsimp only at hb2
  have hBz : IsBytes rb := by
    by_cases h : ek = 0 ∧ k = 0
    · rw [if_pos h] at hb2
      have e := congrArg Prod.fst hb2
      dsimp only at e
      rw [← e]
      unfold failS
      split
      · exact IsBytes.of fun z hz => by cases hz
      · exact hKz
    · rw [if_neg h] at hb2
      have e := congrArg Prod.fst hb2
      dsimp only at e
      rw [← e]
      exact hKz
  have hBl : rb.length ≤ 100000 := by
    by_cases h : ek = 0 ∧ k = 0
    · rw [if_pos h] at hb2
      have e := congrArg Prod.fst hb2
      dsimp only at e
      rw [← e]
      exact Nat.le_trans (failS_le _ _ _) hKl
    · rw [if_neg h] at hb2
      have e := congrArg Prod.fst hb2
      dsimp only at e
      rw [← e]
      exact hKl
  have HB2 := hid hb2
  obtain ⟨tt, ht⟩ : ∃ x, rnT zs = x := ⟨_, rfl⟩
  obtain ⟨body, rt, et⟩ := tt
  have ht2 : textN rb eb 2048 = (body, rt, et) := by have h := ht; unfold rnT at h; rw [hb] at h; exact h
  have hTo := frT_ok rb eb 2048 hBz
  rw [ht2] at hTo
  dsimp only at hTo
  have hTz := hTo.1
  have hTl : body.length ≤ 100000 := Nat.le_trans hTo.2 hBl
  have HTZ := hid hTz
  have HTL := hid hTl
  have CT : Hid (∀ B w, RefAt w B rb eb → Calls Try.prog 33 #[.pointer (some ⟨B, 0, none⟩), .int .i64 2048] w fun r' w' => r' = .returned (.string (st body)) ∧ RefAt w' B rt et ∧ Kp (Jb B) w w') := hid (fun B w h => by
    have h2 := refi_text B rb eb 2048 w h hBz (by decide) (by decide)
    rw [ht2] at h2
    exact h2)
  obtain ⟨xx, hX⟩ : ∃ x, rnX zs = x := ⟨_, rfl⟩
  obtain ⟨s8, rx, E⟩ := xx
  have hX2 : fixN rt et 8 = (s8, rx, E) := by have h := hX; unfold rnX at h; rw [ht] at h; exact h
  have CF : Hid (∀ B w, RefAt w B rt et → Calls Try.prog 34 #[.pointer (some ⟨B, 0, none⟩), .int .i64 8] w fun r' w' => r' = .returned (.string (st s8)) ∧ RefAt w' B rx E ∧ Kp (Jb B) w w') := hid (fun B w h => by
    have h2 := refi_fixed B rt et 8 w h
    rw [hX2] at h2
    exact h2)
  have RERR : Hid (E ≠ 0 → rnF zs = (0, [], 0, E)) := hid (fun h0 => rn_err hne hx (by rw [hX]) h0)
  have ROK : Hid (E = 0 → (¬ (ek = 0 ∧ k = 0) ∧ rightF k body.length = true ∧ (frameF k body).length ≤ zs.length ∧ rnF zs = if zs.take (frameF k body).length ≠ frameF k body then (0, [], 0, 14) else (k, body, ((frameF k body).length : Int), 0))) := hid (fun h0 => by
    obtain ⟨q, hq⟩ : ∃ q, zs = 71 :: q := by
      cases zs with
      | nil => exact absurd rfl hne
      | cons x q => exact ⟨q, by have : x = 71 := by simpa using hx
                                 rw [this]⟩
    have hqz : IsBytes q := by rw [hq] at hz; exact hz.tail
    rcases parse q hqz with ⟨k', body', t, hq2, hr', hb', ht'⟩ | ⟨E', hE', h1', -⟩
    · have rp := right_parts hr'
      have hK : rnK zs = (k', numBytes body'.length ++ (body' ++ t), 0) := by
        rw [hq, hq2]
        unfold rnK
        have := readN_numBytes k' 14 (by omega) (by omega) rp.2.1 (numBytes body'.length ++ (body' ++ t)) ((numBytes_bytes _ (by omega) (by omega)).append (hb'.append ht'))
        rw [numBytes_one k' (by omega)] at this
        exact this
      have hT : rnT zs = (body', t, 0) := by
        unfold rnT rnB
        rw [hK]
        dsimp only
        rw [if_neg (by omega)]
        exact textN_tail body' t rp.2.2 hb' ht'
      rw [hk] at hK
      rw [ht] at hT
      injection hK with k1 k2
      injection k2 with k2 k3
      injection hT with t1 t2
      injection t2 with t2 t3
      subst k1 t1 t2
      have hl8 : 8 ≤ rt.length := by
        rcases Nat.lt_or_ge rt.length 8 with h | h
        · rw [t3, show fixN rt 0 8 = _ from fixN_short rt 8 h] at hX2
          injection hX2 with _ hX2
          injection hX2 with _ hX2
          rw [← hX2] at h0
          exact absurd h0 (by decide)
        · exact h
      refine ⟨by omega, hr', ?_, ?_⟩
      · rw [hq, hq2]
        have e : (71 : Int) :: k :: (numBytes body.length ++ (body ++ rt)) = aheadF k body ++ rt := by rw [ahead_cons k body (by omega)]; simp
        rw [e, List.length_append]
        unfold frameF
        rw [List.length_append, sumF_length]
        omega
      · unfold rnF
        rw [if_neg hne, if_neg (fun hh => hh hx), hX, if_neg (fun hh => hh h0), hk, ht]
    · exfalso
      have h2' : (rnT zs).2.2 = E' := by rw [hq]; unfold rnT; rw [rnB_tB]; exact h1'
      rw [ht] at h2'
      dsimp only at h2'
      rw [h2', fixN_bad rt E' 8 hE'] at hX2
      injection hX2 with _ hX2
      injection hX2 with _ hX2
      rw [← hX2] at h0
      exact hE' h0)
  have HZ := hid hz
  have HZL := hid hl
  obtain ⟨S, hS⟩ : ∃ s, st zs = s := ⟨_, rfl⟩
  have HST := hid hS
  have hsz := st_size zs
  rw [hS] at he hi0 hs1 hsz ⊢
  rw [decide_eq_false hne] at he
  obtain ⟨S1, hS1⟩ : ∃ s, st (zs.drop 1) = s := ⟨_, rfl⟩
  rw [hS1] at hs1
  obtain ⟨R0, hR0⟩ : ∃ N, N = w.heap.size := ⟨_, rfl⟩
  obtain ⟨W, hW⟩ : ∃ W, W = w.alloc (.cells (frL 0 (.slice none 0 0)).toArray 24) := ⟨_, rfl⟩
  have HR0 : Hid (Blk W R0 24 (frL 0 (.slice none 0 0))) := hid (by rw [hW, hR0]; exact Blk.new _ _ _)
  have K0 : Hid (Kp Nb w W) := hid (by rw [hW]; exact (Kp.refl Nb w).alloc _)
  have LR0 : Hid (w.heap.size ≤ R0) := hid (Nat.le_of_eq hR0.symm)
  obtain ⟨B, hB⟩ : ∃ N, N = W.heap.size := ⟨_, rfl⟩
  obtain ⟨W5, hW5⟩ : ∃ W', W' = W.alloc (.cells #[.string S1, .int .i64 0] 70) := ⟨_, rfl⟩
  have RE5 : Hid (RefAt W5 B (zs.drop 1) 0) := hid (by rw [hW5, hB]; unfold RefAt; rw [hS1]; exact Blk.new W _ [.string S1, .int .i64 0])
  have k5 : Kp Nb W W5 := by rw [hW5]; exact (Kp.refl Nb W).alloc _
  have HR5 := hid (HR0.out.kept k5 (fun h => h))
  have K5 := hid (K0.out.trans k5 (fun _ _ h => h))
  have LB : Hid (w.heap.size ≤ B ∧ R0 < B ∧ B < W5.heap.size) := hid ⟨Nat.le_trans K0.out.size (Nat.le_of_eq hB.symm), by rw [hB]; exact HR0.out.lt, RE5.out.lt⟩
  have HSZ := hid hsz
  clear hz hne hx hl h1l hk hKb hKz hKl hb hb2 hBz hBl ht ht2 hTo hTz hTl hX hX2 hS1 k5 HR0 K0 hsz hS
  go_enter Try.func17, Try.ntmps17
  go_upto_region 1 with fail
  rw [show w.alloc (.cells #[.int .i64 0, .slice none 0 0] 24) = W from hW.symm, ← hR0]
  clear hW hR0
  go_upto_region 6 with fail
  rw [show W.alloc (.cells #[.string S1, .int .i64 0] 70) = W5 from hW5.symm, ← hB]
  clear hW5 hB
  go_wp2_with fail
  refine (CN.out _ _ RE5.out).mono ?_
  rintro e w6 ⟨rfl, re6, k6⟩
  obtain ⟨M6, hM6⟩ : ∃ N, N = w6.heap.size := ⟨_, rfl⟩
  obtain ⟨W6, hW6⟩ : ∃ W', W' = w6.alloc (.cells (frL k (.slice none 0 0)).toArray 24) := ⟨_, rfl⟩
  have kn6 : Kp Nb w6 W6 := by rw [hW6]; exact (Kp.refl Nb w6).alloc _
  have RE6 : Hid (RefAt W6 B r ek) := hid (re6.kept kn6 (fun h => h))
  have BM6 : Hid (Blk W6 M6 24 (frL k (.slice none 0 0))) := hid (by rw [hW6, hM6]; exact Blk.new w6 _ _)
  have HR6 := hid ((HR5.out.kept k6 (fun h => by have h' : R0 = B := h; have := LB.out; omega)).kept kn6 (fun h => h))
  have K6 := hid ((K5.out.trans k6 (fun i hi h => by have h' : i = B := h; have := LB.out; omega)).trans kn6 (fun _ _ h => h))
  have LM : Hid (B < M6 ∧ R0 < M6 ∧ w.heap.size ≤ M6) := hid (by have h1 := re6.lt; have := LB.out; rw [hM6]; omega)
  have hwk : IntKind.i64.wrap k = k := by rw [IntKind.wrap_i64]; have := HKB.out; omega
  clear re6 k6 kn6 HR5 K5 RE5
  go_upto_region 7 with fail
  rw [show w6.alloc (.cells #[.int .i64 k, .slice none 0 0] 24) = W6 from hW6.symm, ← hM6]
  clear hW6 hM6 CN
  have m0 := BM6.out.cell 0
  have r1 := Blk.cell RE6.out 1
  simp only [List.getElem?_cons_zero, List.getElem?_cons_succ] at m0 r1
  by_cases hf : ek = 0 ∧ k = 0
  · have HEB : Hid (rb = failS r ek 11 ∧ eb = failE ek 11) := hid (by
      have h := HB2.out
      rw [if_pos hf] at h
      injection h with h1 h2
      exact ⟨h1.symm, h2.symm⟩)
    have g1 : (ek == 0) = true := by simpa using hf.1
    have g2 : (k == 0) = true := by simpa using hf.2
    have HF := hid hf
    clear hf
    have CFL : Hid (∀ w, RefAt w B r ek → Calls Try.prog 32 #[.pointer (some ⟨B, 0, none⟩), .int .i64 11] w fun r' w' => r' = .returned (.tuple #[]) ∧ RefAt w' B rb eb ∧ Kp (Jb B) w w') := hid (fun w h => by rw [HEB.out.1, HEB.out.2]; exact refi_fail B r ek 11 w h)
    go_wp2_with fail
    refine (CFL.out _ RE6.out).mono ?_
    rintro e w8 ⟨rfl, re8, k8⟩
    have RE8 := hid re8
    have BM8 := hid (BM6.out.kept k8 (fun h => by have h' : M6 = B := h; have := LM.out; omega))
    have HR8 := hid (HR6.out.kept k8 (fun h => by have h' : R0 = B := h; have := LB.out; omega))
    have K8 := hid (K6.out.trans k8 (fun i hi h => by have h' : i = B := h; have := LB.out; omega))
    clear re8 k8 RE6 BM6 HR6 K6 m0 r1
    go_wp2_with fail
    refine (CT.out _ _ RE8.out).mono ?_
    rintro e w9 ⟨rfl, re9, k9⟩
    obtain ⟨y9, c9, W9, hcv, hb9, kc9⟩ := conv_str body HTZ.out.1 (Nat.le_trans HTL.out (by decide)) w9
    have RE9 := hid (re9.kept kc9 (fun h => h))
    have BM9 := hid ((BM8.out.kept k9 (fun h => by have h' : M6 = B := h; have := LM.out; omega)).kept kc9 (fun h => h))
    have HR9 := hid ((HR8.out.kept k9 (fun h => by have h' : R0 = B := h; have := LB.out; omega)).kept kc9 (fun h => h))
    have K9 := hid ((K8.out.trans k9 (fun i hi h => by have h' : i = B := h; have := LB.out; omega)).trans kc9 (fun _ _ h => h))
    have BB9 := hid hb9
    have HCV := hid hcv
    clear re9 k9 kc9 hb9 hcv
    have f1 := BM9.out.frozen 1
    have m1 := BM9.out.cell 1
    simp only [List.getElem?_cons_zero, List.getElem?_cons_succ] at m1
    obtain ⟨Wa, hWa⟩ : ∃ W', W' = W9.setCell ⟨M6, 1, none⟩ (.slice y9 body.length c9) := ⟨_, rfl⟩
    have ka : Kp (Jb M6) W9 Wa := by rw [hWa]; exact (Kp.refl (Jb M6) W9).set _ _
    have BMa : Hid (Blk Wa M6 24 (frL k (.slice y9 body.length c9))) := hid (by rw [hWa]; exact BM9.out.set 1 _)
    have REa : Hid (RefAt Wa B rt et) := hid (RE9.out.kept ka (fun h => by have h' : B = M6 := h; have := LM.out; omega))
    have BBa : Hid (BySl Nb Wa (.slice y9 body.length c9) body) := hid (by_beside BB9.out BM9.out (by intro z; simp) (by intro z; simp) ka)
    have HRa := hid (HR9.out.kept ka (fun h => by have h' : R0 = M6 := h; have := LM.out; omega))
    have Ka := hid (K9.out.trans ka (fun i hi h => by have h' : i = M6 := h; have := LM.out; omega))
    clear ka RE9 HR9 K9 BB9 RE8 BM8 HR8 K8 CT
    go_upto_region 10 with (refine wpList_val (by rfl) _ _ (exec_convert rfl rfl HCV.out) ?_)
    rw [show W9.setCell ⟨M6, 1, none⟩ (.slice y9 body.length c9) = Wa from hWa.symm]
    clear hWa f1 m1
    go_wp2_with fail
    refine (CF.out _ _ REa.out).mono ?_
    rintro e wb ⟨rfl, reb, kb⟩
    have REb := hid reb
    have BMb := hid (BMa.out.kept kb (fun h => by have h' : M6 = B := h; have := LM.out; omega))
    have HRb := hid (HRa.out.kept kb (fun h => by have h' : R0 = B := h; have := LB.out; omega))
    have Kb := hid (Ka.out.trans kb (fun i hi h => by have h' : i = B := h; have := LB.out; omega))
    have BBb : Hid (BySl Nb wb (.slice y9 body.length c9) body) := hid (by_beside BBa.out (show Blk Wa B 70 [.string (st rt), .int .i64 et] from REa.out) (by intro z; simp) (by intro z; simp) kb)
    clear reb kb BMa HRa Ka BBa REa CF
    have r1 := Blk.cell REb.out 1
    simp only [List.getElem?_cons_zero, List.getElem?_cons_succ] at r1
    have hE : E ≠ 0 := fun h0 => (ROK.out h0).1 HF.out
    have gE : (E != 0) = true := by rw [bne_iff_ne]; exact hE
    have RR := hid (RERR.out hE)
    clear hE
    go_upto_region 12 with fail
    refine region_ghost (g0 := ()) [none, none, none, some 6, some 7, none, none, none, none, none, none, none, none, none, none, none, none, none, none, none, none, none, none, none, none, none, none, none, none, none, none, none, none, none, none, none, none, none, none, none, none, none, none, none, none, none, some 0, some 1, some 2, some 3, some 4, none, none, none, none, none, none, none, none, none, none, none, none] [[], [(5, none)], [(47, some 1)], [(48, some 2)], [(49, some 3)], [(2, none), (46, some 0)], [], [(50, some 4)]] [some 46, some 47, some 48, some 49, some 50, none, some 3, some 4] (fun g => [frV 0 (.slice none 0 0), .pointer (some ⟨B, 0, none⟩), .pointer (some ⟨B, 0, none⟩), .pointer (some ⟨B, 1, none⟩), .int .i64 E, undef, .int .i64 0, .int .i64 E]) [] (fun _ _ wq => Hid (Kp (Jb R0) wb wq ∧ Blk wq R0 24 (frL 0 (.slice none 0 0)) ∧ RefAt wq B rx E)) (by kernel_rfl) (by kernel_rfl) (fun g => by kernel_rfl) (by kernel_rfl) ?hS (GFrom.all (n := 8) (by kernel_rfl) ?hstep) ?hend
    case hstep =>
      refine GFrom.cons (GStep.val _ rfl rfl _ rfl (fun g => frV 0 (.slice none 0 0)) (fun _ => rfl) (fun _ => trivial) (fun bs g ev wq hS he hr => ?_)) ?_
      · have hk := he.1; clear hr he
        go_simp
      refine GFrom.cons (GStep.val _ rfl rfl _ rfl (fun g => .pointer (some ⟨B, 0, none⟩)) (fun _ => rfl) (fun _ => trivial) (fun bs g ev wq hS he hr => ?_)) ?_
      · have r0 : ev (.tmp 5) = .pointer (some ⟨B, 0, none⟩) := hr (5, none) (by simp); have hk := he.1; clear hr he
        go_simp
      refine GFrom.cons (GStep.val _ rfl rfl _ rfl (fun g => .pointer (some ⟨B, 0, none⟩)) (fun _ => rfl) (fun _ => trivial) (fun bs g ev wq hS he hr => ?_)) ?_
      · have r0 : ev (.tmp 47) = .pointer (some ⟨B, 0, none⟩) := hr (47, some 1) (by simp); have hk := he.1; clear hr he
        go_simp
      refine GFrom.cons (GStep.val _ rfl rfl _ rfl (fun g => .pointer (some ⟨B, 1, none⟩)) (fun _ => rfl) (fun _ => trivial) (fun bs g ev wq hS he hr => ?_)) ?_
      · have r0 : ev (.tmp 48) = .pointer (some ⟨B, 0, none⟩) := hr (48, some 2) (by simp); have hk := he.1; clear hr he
        go_simp
      refine GFrom.cons (GStep.val _ rfl rfl _ rfl (fun g => .int .i64 E) (fun _ => rfl) (fun _ => trivial) (fun bs g ev wq hS he hr => ?_)) ?_
      · have r0 : ev (.tmp 49) = .pointer (some ⟨B, 1, none⟩) := hr (49, some 3) (by simp); have hk := he.1; clear hr he
        have c0 := Blk.cell hS.out.2.2 1
        go_simp
      refine GFrom.cons (GStep.storem _ rfl _ rfl (fun _ => rfl) (fun _ => trivial) (fun Lx g ev wq hL hd hcl hS he hr => ?_)) ?_
      · have r0 : ev (.tmp 2) = .pointer (some ⟨R0, 0, none⟩) := hr (2, none) (by simp); have r1 : ev (.tmp 46) = frV 0 (.slice none 0 0) := hr (46, some 0) (by simp); clear hr he
        have k : Kp (Jb R0) wq (wq.setCells R0 0 (frL 0 (.slice none 0 0))) := Kp.setCells (S := Jb R0) (fun _ => show R0 = R0 from rfl) _ _ _ (Kp.refl _ wq)
        exact ⟨_, exec_store rfl r0 r1 (fr_store rfl (hS.out.2.1.there 0 2 (Nat.le_refl _))), hid ⟨hS.out.1.trans k (fun _ _ h => h), row_set hS.out.2.1 rfl, Blk.kept hS.out.2.2 k (fun h => by have h' : B = R0 := h; have := LB.out; omega)⟩⟩
      refine GFrom.cons (GStep.val _ rfl rfl _ rfl (fun g => .int .i64 0) (fun _ => rfl) (fun _ => trivial) (fun bs g ev wq hS he hr => ?_)) ?_
      · have hk := he.1; clear hr he
        go_simp
      refine GFrom.cons (GStep.val _ rfl rfl _ rfl (fun g => .int .i64 E) (fun _ => rfl) (fun _ => trivial) (fun bs g ev wq hS he hr => ?_)) ?_
      · have r0 : ev (.tmp 50) = .int .i64 E := hr (50, some 4) (by simp); have hk := he.1; clear hr he
        go_simp
      exact GFrom.nil
    case hS => exact hid ⟨(Kp.refl (Jb R0) wb).drew, Blk.kept HRb.out ((Kp.refl Nb wb).drew) (fun h => h), Blk.kept REb.out ((Kp.refl Nb wb).drew) (fun h => h)⟩
    case hend =>
      intro g wc hc
      have K9 := hid (Kb.out.trans hc.out.1 (fun i hi h => by have h' : i = R0 := h; have := LR0.out; omega))
      have H9 := hid hc.out.2.1
      clear hc
      simp only [putAll, List.zip_cons_cons, List.zip_nil_right, List.foldl_cons, List.foldl_nil, Act.put, List.setIfInBounds_toArray, List.set_cons_zero, List.set_cons_succ]
      go_wp2
      refine bodyPost_ret (results_ctt rfl _ R0 (by rfl) (frV 0 (.slice none 0 0)) (fr_loadVar H9.out)) rfl ?_
      exact ⟨.slice none 0 0, by rw [RR.out]; rfl, by rw [RR.out]; exact BySl.none _, K9.out⟩

  · have HEB : Hid (rb = r ∧ eb = ek) := hid (by
      have h := HB2.out
      rw [if_neg hf] at h
      injection h with h1 h2
      exact ⟨h1.symm, h2.symm⟩)
    have RE8 : Hid (RefAt W6 B rb eb) := hid (by rw [HEB.out.1, HEB.out.2]; exact RE6.out)
    have BM8 := BM6
    have HR8 := HR6
    have K8 := K6
    have g7 : (if (ek == 0) = true then (k == 0) else false) = false := by
      by_cases h1 : ek = 0
      · have h2 : k ≠ 0 := fun h => hf ⟨h1, h⟩
        have h3 : (k == 0) = false := by simpa using h2
        rw [h3]; split <;> rfl
      · have h3 : (ek == 0) = false := by simpa using h1
        rw [h3]; rfl
    rcases (show (ek == 0) = true ∧ (k == 0) = false ∨ (ek == 0) = false by
      by_cases h1 : ek = 0
      · exact .inl ⟨by simpa using h1, by simpa using (fun h => hf ⟨h1, h⟩ : k ≠ 0)⟩
      · exact .inr (by simpa using h1)) with ⟨g1, g2⟩ | g1
    · go_wp2_with fail
      refine (CT.out _ _ RE8.out).mono ?_
      rintro e w9 ⟨rfl, re9, k9⟩
      obtain ⟨y9, c9, W9, hcv, hb9, kc9⟩ := conv_str body HTZ.out.1 (Nat.le_trans HTL.out (by decide)) w9
      have RE9 := hid (re9.kept kc9 (fun h => h))
      have BM9 := hid ((BM8.out.kept k9 (fun h => by have h' : M6 = B := h; have := LM.out; omega)).kept kc9 (fun h => h))
      have HR9 := hid ((HR8.out.kept k9 (fun h => by have h' : R0 = B := h; have := LB.out; omega)).kept kc9 (fun h => h))
      have K9 := hid ((K8.out.trans k9 (fun i hi h => by have h' : i = B := h; have := LB.out; omega)).trans kc9 (fun _ _ h => h))
      have BB9 := hid hb9
      have HCV := hid hcv
      clear re9 k9 kc9 hb9 hcv
      have f1 := BM9.out.frozen 1
      have m1 := BM9.out.cell 1
      simp only [List.getElem?_cons_zero, List.getElem?_cons_succ] at m1
      obtain ⟨Wa, hWa⟩ : ∃ W', W' = W9.setCell ⟨M6, 1, none⟩ (.slice y9 body.length c9) := ⟨_, rfl⟩
      have ka : Kp (Jb M6) W9 Wa := by rw [hWa]; exact (Kp.refl (Jb M6) W9).set _ _
      have BMa : Hid (Blk Wa M6 24 (frL k (.slice y9 body.length c9))) := hid (by rw [hWa]; exact BM9.out.set 1 _)
      have REa : Hid (RefAt Wa B rt et) := hid (RE9.out.kept ka (fun h => by have h' : B = M6 := h; have := LM.out; omega))
      have BBa : Hid (BySl Nb Wa (.slice y9 body.length c9) body) := hid (by_beside BB9.out BM9.out (by intro z; simp) (by intro z; simp) ka)
      have HRa := hid (HR9.out.kept ka (fun h => by have h' : R0 = M6 := h; have := LM.out; omega))
      have Ka := hid (K9.out.trans ka (fun i hi h => by have h' : i = M6 := h; have := LM.out; omega))
      clear ka RE9 HR9 K9 BB9 RE8 BM8 HR8 K8 CT
      go_upto_region 10 with (refine wpList_val (by rfl) _ _ (exec_convert rfl rfl HCV.out) ?_)
      rw [show W9.setCell ⟨M6, 1, none⟩ (.slice y9 body.length c9) = Wa from hWa.symm]
      clear hWa f1 m1
      go_wp2_with fail
      refine (CF.out _ _ REa.out).mono ?_
      rintro e wb ⟨rfl, reb, kb⟩
      have REb := hid reb
      have BMb := hid (BMa.out.kept kb (fun h => by have h' : M6 = B := h; have := LM.out; omega))
      have HRb := hid (HRa.out.kept kb (fun h => by have h' : R0 = B := h; have := LB.out; omega))
      have Kb := hid (Ka.out.trans kb (fun i hi h => by have h' : i = B := h; have := LB.out; omega))
      have BBb : Hid (BySl Nb wb (.slice y9 body.length c9) body) := hid (by_beside BBa.out (show Blk Wa B 70 [.string (st rt), .int .i64 et] from REa.out) (by intro z; simp) (by intro z; simp) kb)
      clear reb kb BMa HRa Ka BBa REa CF
      have r1 := Blk.cell REb.out 1
      simp only [List.getElem?_cons_zero, List.getElem?_cons_succ] at r1
      by_cases hE : E = 0
      · have gE : (E != 0) = false := by rw [bne_eq_false_iff_eq]; exact hE
        obtain ⟨-, hr, hln, hR⟩ := ROK.out hE
        clear hE
        obtain ⟨F, hF⟩ : ∃ F, frameF k body = F := ⟨_, rfl⟩
        obtain ⟨nF, hnF⟩ : ∃ n, F.length = n := ⟨_, rfl⟩
        obtain ⟨SF, hSF⟩ : ∃ s, st F = s := ⟨_, rfl⟩
        obtain ⟨S7, hS7⟩ : ∃ s, st (zs.take nF) = s := ⟨_, rfl⟩
        have CB : Hid (∀ w, BySl Nb w (.slice y9 body.length c9) body → Calls Try.prog 9 #[frV k (.slice y9 body.length c9)] w fun e w' => e = .returned (.string SF) ∧ Kp Nb w w') := hid (fun w h => by
          have h2 := rbytes_any k _ body w h hr
          rw [hF, hSF] at h2
          exact h2)
        rw [hF, hnF] at hR hln
        have hnb : nF ≤ 2061 := by
          have h := frame_length k body hr
          have rp := right_parts hr
          have h3 := sizeN_3 body.length (by omega) (by omega)
          rw [hF, hnF] at h
          unfold costF at h
          rw [if_pos (by omega)] at h
          omega
        have sF : SF.size = nF := by rw [← hSF, st_size, hnF]
        have BFF : IsBytes F := by rw [← hF]; exact frame_bytes k body HTZ.out.1 hr
        have hsl : ∀ w, (Instr.slice 9 (.string S) none (some (.int .i64 (nF : Int))) none).run Try.prog w = .ok (.string S7) w := fun w => by
          rw [← HST.out, ← hS7]
          exact sl_h zs nF hln w
        have heq := st_beq (zs.take nF) F (HZ.out.take _) BFF
        rw [hS7, hSF] at heq
        have HR := hid hR
        have HNB := hid hnb
        clear hr hF hnF hSF hS7 BFF hR
        have m0 := BMb.out.cell 0
        have m1 := BMb.out.cell 1
        simp only [List.getElem?_cons_zero, List.getElem?_cons_succ] at m0 m1
        go_wp2_with fail
        refine (CB.out _ BBb.out).mono ?_
        rintro e wd ⟨rfl, kd⟩
        have BMd := hid (BMb.out.kept kd (fun h => h))
        have HRd := hid (HRb.out.kept kd (fun h => h))
        have Kd := hid (Kb.out.trans kd (fun _ _ h => h))
        have BBd := hid (BBb.out.kept kd (fun _ h => h))
        clear kd BMb HRb Kb BBb REb r1 m0 m1 CB gE
        have TH := hid (HRd.out.there 0 2 (Nat.le_refl _))
        by_cases hs : zs.take nF = F
        · rw [decide_eq_true hs] at heq
          have RR : Hid (rnF zs = (k, body, (nF : Int), 0)) := hid (by rw [HR.out, if_neg (fun h => h hs)])
          clear hs
          have m0 := BMd.out.cell 0
          have m1 := BMd.out.cell 1
          simp only [List.getElem?_cons_zero, List.getElem?_cons_succ] at m0 m1
          have H9 : Hid (Blk (wd.setCells R0 0 (frL k (.slice y9 body.length c9))) R0 24 (frL k (.slice y9 body.length c9))) := hid (row_set HRd.out rfl)
          have kR : Kp (Jb R0) wd (wd.setCells R0 0 (frL k (.slice y9 body.length c9))) := Kp.setCells (S := Jb R0) (fun _ => show R0 = R0 from rfl) _ _ _ (Kp.refl _ wd)
          have K9 : Hid (Kp Nb w (wd.setCells R0 0 (frL k (.slice y9 body.length c9)))) := hid (Kd.out.trans kR (fun i hi h => by have h' : i = R0 := h; have := LR0.out; omega))
          have B9 : Hid (BySl Nb (wd.setCells R0 0 (frL k (.slice y9 body.length c9))) (.slice y9 body.length c9) body) := hid (by_beside BBd.out HRd.out (by intro z; simp) (by intro z; simp) kR)
          clear kR
          go_wp2_with (refine wpList_store_mid (by rfl) 24 (.tmp 2) (.tmp 60) (by rfl) R0 0 (frL k (.slice y9 body.length c9)).toArray (by rfl) (by rfl) TH.out fr_info (all_oneCell_toArray (frL_one _ _)) ?_)
          refine bodyPost_ret (results_ctt rfl _ R0 (by rfl) (frV k (.slice y9 body.length c9)) (fr_loadVar H9.out)) rfl ?_
          exact ⟨.slice y9 body.length c9, by rw [RR.out]; rfl, by rw [RR.out]; exact B9.out, K9.out⟩
        · rw [decide_eq_false hs] at heq
          have RR : Hid (rnF zs = (0, [], 0, 14)) := hid (by rw [HR.out, if_pos hs])
          clear hs
          have H9 : Hid (Blk (wd.setCells R0 0 (frL 0 (.slice none 0 0))) R0 24 (frL 0 (.slice none 0 0))) := hid (row_set HRd.out rfl)
          have K9 : Hid (Kp Nb w (wd.setCells R0 0 (frL 0 (.slice none 0 0)))) := hid (Kp.setCells (fun h => absurd h (Nat.not_lt.2 LR0.out)) _ _ _ Kd.out)
          go_wp2_with (refine wpList_store_mid (by rfl) 24 (.tmp 2) (.tmp 59) (by rfl) R0 0 (frL 0 (.slice none 0 0)).toArray (by rfl) (by rfl) TH.out fr_info (all_oneCell_toArray (frL_one _ _)) ?_)
          refine bodyPost_ret (results_ctt rfl _ R0 (by rfl) (frV 0 (.slice none 0 0)) (fr_loadVar H9.out)) rfl ?_
          exact ⟨.slice none 0 0, by rw [RR.out]; rfl, by rw [RR.out]; exact BySl.none _, K9.out⟩
      · have hE : E ≠ 0 := hE
        have gE : (E != 0) = true := by rw [bne_iff_ne]; exact hE
        have RR := hid (RERR.out hE)
        clear hE
        go_upto_region 12 with fail
        refine region_ghost (g0 := ()) [none, none, none, some 6, some 7, none, none, none, none, none, none, none, none, none, none, none, none, none, none, none, none, none, none, none, none, none, none, none, none, none, none, none, none, none, none, none, none, none, none, none, none, none, none, none, none, none, some 0, some 1, some 2, some 3, some 4, none, none, none, none, none, none, none, none, none, none, none, none] [[], [(5, none)], [(47, some 1)], [(48, some 2)], [(49, some 3)], [(2, none), (46, some 0)], [], [(50, some 4)]] [some 46, some 47, some 48, some 49, some 50, none, some 3, some 4] (fun g => [frV 0 (.slice none 0 0), .pointer (some ⟨B, 0, none⟩), .pointer (some ⟨B, 0, none⟩), .pointer (some ⟨B, 1, none⟩), .int .i64 E, undef, .int .i64 0, .int .i64 E]) [] (fun _ _ wq => Hid (Kp (Jb R0) wb wq ∧ Blk wq R0 24 (frL 0 (.slice none 0 0)) ∧ RefAt wq B rx E)) (by kernel_rfl) (by kernel_rfl) (fun g => by kernel_rfl) (by kernel_rfl) ?hS (GFrom.all (n := 8) (by kernel_rfl) ?hstep) ?hend
        case hstep =>
          refine GFrom.cons (GStep.val _ rfl rfl _ rfl (fun g => frV 0 (.slice none 0 0)) (fun _ => rfl) (fun _ => trivial) (fun bs g ev wq hS he hr => ?_)) ?_
          · have hk := he.1; clear hr he
            go_simp
          refine GFrom.cons (GStep.val _ rfl rfl _ rfl (fun g => .pointer (some ⟨B, 0, none⟩)) (fun _ => rfl) (fun _ => trivial) (fun bs g ev wq hS he hr => ?_)) ?_
          · have r0 : ev (.tmp 5) = .pointer (some ⟨B, 0, none⟩) := hr (5, none) (by simp); have hk := he.1; clear hr he
            go_simp
          refine GFrom.cons (GStep.val _ rfl rfl _ rfl (fun g => .pointer (some ⟨B, 0, none⟩)) (fun _ => rfl) (fun _ => trivial) (fun bs g ev wq hS he hr => ?_)) ?_
          · have r0 : ev (.tmp 47) = .pointer (some ⟨B, 0, none⟩) := hr (47, some 1) (by simp); have hk := he.1; clear hr he
            go_simp
          refine GFrom.cons (GStep.val _ rfl rfl _ rfl (fun g => .pointer (some ⟨B, 1, none⟩)) (fun _ => rfl) (fun _ => trivial) (fun bs g ev wq hS he hr => ?_)) ?_
          · have r0 : ev (.tmp 48) = .pointer (some ⟨B, 0, none⟩) := hr (48, some 2) (by simp); have hk := he.1; clear hr he
            go_simp
          refine GFrom.cons (GStep.val _ rfl rfl _ rfl (fun g => .int .i64 E) (fun _ => rfl) (fun _ => trivial) (fun bs g ev wq hS he hr => ?_)) ?_
          · have r0 : ev (.tmp 49) = .pointer (some ⟨B, 1, none⟩) := hr (49, some 3) (by simp); have hk := he.1; clear hr he
            have c0 := Blk.cell hS.out.2.2 1
            go_simp
          refine GFrom.cons (GStep.storem _ rfl _ rfl (fun _ => rfl) (fun _ => trivial) (fun Lx g ev wq hL hd hcl hS he hr => ?_)) ?_
          · have r0 : ev (.tmp 2) = .pointer (some ⟨R0, 0, none⟩) := hr (2, none) (by simp); have r1 : ev (.tmp 46) = frV 0 (.slice none 0 0) := hr (46, some 0) (by simp); clear hr he
            have k : Kp (Jb R0) wq (wq.setCells R0 0 (frL 0 (.slice none 0 0))) := Kp.setCells (S := Jb R0) (fun _ => show R0 = R0 from rfl) _ _ _ (Kp.refl _ wq)
            exact ⟨_, exec_store rfl r0 r1 (fr_store rfl (hS.out.2.1.there 0 2 (Nat.le_refl _))), hid ⟨hS.out.1.trans k (fun _ _ h => h), row_set hS.out.2.1 rfl, Blk.kept hS.out.2.2 k (fun h => by have h' : B = R0 := h; have := LB.out; omega)⟩⟩
          refine GFrom.cons (GStep.val _ rfl rfl _ rfl (fun g => .int .i64 0) (fun _ => rfl) (fun _ => trivial) (fun bs g ev wq hS he hr => ?_)) ?_
          · have hk := he.1; clear hr he
            go_simp
          refine GFrom.cons (GStep.val _ rfl rfl _ rfl (fun g => .int .i64 E) (fun _ => rfl) (fun _ => trivial) (fun bs g ev wq hS he hr => ?_)) ?_
          · have r0 : ev (.tmp 50) = .int .i64 E := hr (50, some 4) (by simp); have hk := he.1; clear hr he
            go_simp
          exact GFrom.nil
        case hS => exact hid ⟨(Kp.refl (Jb R0) wb).drew, Blk.kept HRb.out ((Kp.refl Nb wb).drew) (fun h => h), Blk.kept REb.out ((Kp.refl Nb wb).drew) (fun h => h)⟩
        case hend =>
          intro g wc hc
          have K9 := hid (Kb.out.trans hc.out.1 (fun i hi h => by have h' : i = R0 := h; have := LR0.out; omega))
          have H9 := hid hc.out.2.1
          clear hc
          simp only [putAll, List.zip_cons_cons, List.zip_nil_right, List.foldl_cons, List.foldl_nil, Act.put, List.setIfInBounds_toArray, List.set_cons_zero, List.set_cons_succ]
          go_wp2
          refine bodyPost_ret (results_ctt rfl _ R0 (by rfl) (frV 0 (.slice none 0 0)) (fr_loadVar H9.out)) rfl ?_
          exact ⟨.slice none 0 0, by rw [RR.out]; rfl, by rw [RR.out]; exact BySl.none _, K9.out⟩
    · go_wp2_with fail
      refine (CT.out _ _ RE8.out).mono ?_
      rintro e w9 ⟨rfl, re9, k9⟩
      obtain ⟨y9, c9, W9, hcv, hb9, kc9⟩ := conv_str body HTZ.out.1 (Nat.le_trans HTL.out (by decide)) w9
      have RE9 := hid (re9.kept kc9 (fun h => h))
      have BM9 := hid ((BM8.out.kept k9 (fun h => by have h' : M6 = B := h; have := LM.out; omega)).kept kc9 (fun h => h))
      have HR9 := hid ((HR8.out.kept k9 (fun h => by have h' : R0 = B := h; have := LB.out; omega)).kept kc9 (fun h => h))
      have K9 := hid ((K8.out.trans k9 (fun i hi h => by have h' : i = B := h; have := LB.out; omega)).trans kc9 (fun _ _ h => h))
      have BB9 := hid hb9
      have HCV := hid hcv
      clear re9 k9 kc9 hb9 hcv
      have f1 := BM9.out.frozen 1
      have m1 := BM9.out.cell 1
      simp only [List.getElem?_cons_zero, List.getElem?_cons_succ] at m1
      obtain ⟨Wa, hWa⟩ : ∃ W', W' = W9.setCell ⟨M6, 1, none⟩ (.slice y9 body.length c9) := ⟨_, rfl⟩
      have ka : Kp (Jb M6) W9 Wa := by rw [hWa]; exact (Kp.refl (Jb M6) W9).set _ _
      have BMa : Hid (Blk Wa M6 24 (frL k (.slice y9 body.length c9))) := hid (by rw [hWa]; exact BM9.out.set 1 _)
      have REa : Hid (RefAt Wa B rt et) := hid (RE9.out.kept ka (fun h => by have h' : B = M6 := h; have := LM.out; omega))
      have BBa : Hid (BySl Nb Wa (.slice y9 body.length c9) body) := hid (by_beside BB9.out BM9.out (by intro z; simp) (by intro z; simp) ka)
      have HRa := hid (HR9.out.kept ka (fun h => by have h' : R0 = M6 := h; have := LM.out; omega))
      have Ka := hid (K9.out.trans ka (fun i hi h => by have h' : i = M6 := h; have := LM.out; omega))
      clear ka RE9 HR9 K9 BB9 RE8 BM8 HR8 K8 CT
      go_upto_region 10 with (refine wpList_val (by rfl) _ _ (exec_convert rfl rfl HCV.out) ?_)
      rw [show W9.setCell ⟨M6, 1, none⟩ (.slice y9 body.length c9) = Wa from hWa.symm]
      clear hWa f1 m1
      go_wp2_with fail
      refine (CF.out _ _ REa.out).mono ?_
      rintro e wb ⟨rfl, reb, kb⟩
      have REb := hid reb
      have BMb := hid (BMa.out.kept kb (fun h => by have h' : M6 = B := h; have := LM.out; omega))
      have HRb := hid (HRa.out.kept kb (fun h => by have h' : R0 = B := h; have := LB.out; omega))
      have Kb := hid (Ka.out.trans kb (fun i hi h => by have h' : i = B := h; have := LB.out; omega))
      have BBb : Hid (BySl Nb wb (.slice y9 body.length c9) body) := hid (by_beside BBa.out (show Blk Wa B 70 [.string (st rt), .int .i64 et] from REa.out) (by intro z; simp) (by intro z; simp) kb)
      clear reb kb BMa HRa Ka BBa REa CF
      have r1 := Blk.cell REb.out 1
      simp only [List.getElem?_cons_zero, List.getElem?_cons_succ] at r1
      by_cases hE : E = 0
      · have gE : (E != 0) = false := by rw [bne_eq_false_iff_eq]; exact hE
        obtain ⟨-, hr, hln, hR⟩ := ROK.out hE
        clear hE
        obtain ⟨F, hF⟩ : ∃ F, frameF k body = F := ⟨_, rfl⟩
        obtain ⟨nF, hnF⟩ : ∃ n, F.length = n := ⟨_, rfl⟩
        obtain ⟨SF, hSF⟩ : ∃ s, st F = s := ⟨_, rfl⟩
        obtain ⟨S7, hS7⟩ : ∃ s, st (zs.take nF) = s := ⟨_, rfl⟩
        have CB : Hid (∀ w, BySl Nb w (.slice y9 body.length c9) body → Calls Try.prog 9 #[frV k (.slice y9 body.length c9)] w fun e w' => e = .returned (.string SF) ∧ Kp Nb w w') := hid (fun w h => by
          have h2 := rbytes_any k _ body w h hr
          rw [hF, hSF] at h2
          exact h2)
        rw [hF, hnF] at hR hln
        have hnb : nF ≤ 2061 := by
          have h := frame_length k body hr
          have rp := right_parts hr
          have h3 := sizeN_3 body.length (by omega) (by omega)
          rw [hF, hnF] at h
          unfold costF at h
          rw [if_pos (by omega)] at h
          omega
        have sF : SF.size = nF := by rw [← hSF, st_size, hnF]
        have BFF : IsBytes F := by rw [← hF]; exact frame_bytes k body HTZ.out.1 hr
        have hsl : ∀ w, (Instr.slice 9 (.string S) none (some (.int .i64 (nF : Int))) none).run Try.prog w = .ok (.string S7) w := fun w => by
          rw [← HST.out, ← hS7]
          exact sl_h zs nF hln w
        have heq := st_beq (zs.take nF) F (HZ.out.take _) BFF
        rw [hS7, hSF] at heq
        have HR := hid hR
        have HNB := hid hnb
        clear hr hF hnF hSF hS7 BFF hR
        have m0 := BMb.out.cell 0
        have m1 := BMb.out.cell 1
        simp only [List.getElem?_cons_zero, List.getElem?_cons_succ] at m0 m1
        go_wp2_with fail
        refine (CB.out _ BBb.out).mono ?_
        rintro e wd ⟨rfl, kd⟩
        have BMd := hid (BMb.out.kept kd (fun h => h))
        have HRd := hid (HRb.out.kept kd (fun h => h))
        have Kd := hid (Kb.out.trans kd (fun _ _ h => h))
        have BBd := hid (BBb.out.kept kd (fun _ h => h))
        clear kd BMb HRb Kb BBb REb r1 m0 m1 CB gE
        have TH := hid (HRd.out.there 0 2 (Nat.le_refl _))
        by_cases hs : zs.take nF = F
        · rw [decide_eq_true hs] at heq
          have RR : Hid (rnF zs = (k, body, (nF : Int), 0)) := hid (by rw [HR.out, if_neg (fun h => h hs)])
          clear hs
          have m0 := BMd.out.cell 0
          have m1 := BMd.out.cell 1
          simp only [List.getElem?_cons_zero, List.getElem?_cons_succ] at m0 m1
          have H9 : Hid (Blk (wd.setCells R0 0 (frL k (.slice y9 body.length c9))) R0 24 (frL k (.slice y9 body.length c9))) := hid (row_set HRd.out rfl)
          have kR : Kp (Jb R0) wd (wd.setCells R0 0 (frL k (.slice y9 body.length c9))) := Kp.setCells (S := Jb R0) (fun _ => show R0 = R0 from rfl) _ _ _ (Kp.refl _ wd)
          have K9 : Hid (Kp Nb w (wd.setCells R0 0 (frL k (.slice y9 body.length c9)))) := hid (Kd.out.trans kR (fun i hi h => by have h' : i = R0 := h; have := LR0.out; omega))
          have B9 : Hid (BySl Nb (wd.setCells R0 0 (frL k (.slice y9 body.length c9))) (.slice y9 body.length c9) body) := hid (by_beside BBd.out HRd.out (by intro z; simp) (by intro z; simp) kR)
          clear kR
          go_wp2_with (refine wpList_store_mid (by rfl) 24 (.tmp 2) (.tmp 60) (by rfl) R0 0 (frL k (.slice y9 body.length c9)).toArray (by rfl) (by rfl) TH.out fr_info (all_oneCell_toArray (frL_one _ _)) ?_)
          refine bodyPost_ret (results_ctt rfl _ R0 (by rfl) (frV k (.slice y9 body.length c9)) (fr_loadVar H9.out)) rfl ?_
          exact ⟨.slice y9 body.length c9, by rw [RR.out]; rfl, by rw [RR.out]; exact B9.out, K9.out⟩
        · rw [decide_eq_false hs] at heq
          have RR : Hid (rnF zs = (0, [], 0, 14)) := hid (by rw [HR.out, if_pos hs])
          clear hs
          have H9 : Hid (Blk (wd.setCells R0 0 (frL 0 (.slice none 0 0))) R0 24 (frL 0 (.slice none 0 0))) := hid (row_set HRd.out rfl)
          have K9 : Hid (Kp Nb w (wd.setCells R0 0 (frL 0 (.slice none 0 0)))) := hid (Kp.setCells (fun h => absurd h (Nat.not_lt.2 LR0.out)) _ _ _ Kd.out)
          go_wp2_with (refine wpList_store_mid (by rfl) 24 (.tmp 2) (.tmp 59) (by rfl) R0 0 (frL 0 (.slice none 0 0)).toArray (by rfl) (by rfl) TH.out fr_info (all_oneCell_toArray (frL_one _ _)) ?_)
          refine bodyPost_ret (results_ctt rfl _ R0 (by rfl) (frV 0 (.slice none 0 0)) (fr_loadVar H9.out)) rfl ?_
          exact ⟨.slice none 0 0, by rw [RR.out]; rfl, by rw [RR.out]; exact BySl.none _, K9.out⟩
      · have hE : E ≠ 0 := hE
        have gE : (E != 0) = true := by rw [bne_iff_ne]; exact hE
        have RR := hid (RERR.out hE)
        clear hE
        go_upto_region 12 with fail
        refine region_ghost (g0 := ()) [none, none, none, some 6, some 7, none, none, none, none, none, none, none, none, none, none, none, none, none, none, none, none, none, none, none, none, none, none, none, none, none, none, none, none, none, none, none, none, none, none, none, none, none, none, none, none, none, some 0, some 1, some 2, some 3, some 4, none, none, none, none, none, none, none, none, none, none, none, none] [[], [(5, none)], [(47, some 1)], [(48, some 2)], [(49, some 3)], [(2, none), (46, some 0)], [], [(50, some 4)]] [some 46, some 47, some 48, some 49, some 50, none, some 3, some 4] (fun g => [frV 0 (.slice none 0 0), .pointer (some ⟨B, 0, none⟩), .pointer (some ⟨B, 0, none⟩), .pointer (some ⟨B, 1, none⟩), .int .i64 E, undef, .int .i64 0, .int .i64 E]) [] (fun _ _ wq => Hid (Kp (Jb R0) wb wq ∧ Blk wq R0 24 (frL 0 (.slice none 0 0)) ∧ RefAt wq B rx E)) (by kernel_rfl) (by kernel_rfl) (fun g => by kernel_rfl) (by kernel_rfl) ?hS (GFrom.all (n := 8) (by kernel_rfl) ?hstep) ?hend
        case hstep =>
          refine GFrom.cons (GStep.val _ rfl rfl _ rfl (fun g => frV 0 (.slice none 0 0)) (fun _ => rfl) (fun _ => trivial) (fun bs g ev wq hS he hr => ?_)) ?_
          · have hk := he.1; clear hr he
            go_simp
          refine GFrom.cons (GStep.val _ rfl rfl _ rfl (fun g => .pointer (some ⟨B, 0, none⟩)) (fun _ => rfl) (fun _ => trivial) (fun bs g ev wq hS he hr => ?_)) ?_
          · have r0 : ev (.tmp 5) = .pointer (some ⟨B, 0, none⟩) := hr (5, none) (by simp); have hk := he.1; clear hr he
            go_simp
          refine GFrom.cons (GStep.val _ rfl rfl _ rfl (fun g => .pointer (some ⟨B, 0, none⟩)) (fun _ => rfl) (fun _ => trivial) (fun bs g ev wq hS he hr => ?_)) ?_
          · have r0 : ev (.tmp 47) = .pointer (some ⟨B, 0, none⟩) := hr (47, some 1) (by simp); have hk := he.1; clear hr he
            go_simp
          refine GFrom.cons (GStep.val _ rfl rfl _ rfl (fun g => .pointer (some ⟨B, 1, none⟩)) (fun _ => rfl) (fun _ => trivial) (fun bs g ev wq hS he hr => ?_)) ?_
          · have r0 : ev (.tmp 48) = .pointer (some ⟨B, 0, none⟩) := hr (48, some 2) (by simp); have hk := he.1; clear hr he
            go_simp
          refine GFrom.cons (GStep.val _ rfl rfl _ rfl (fun g => .int .i64 E) (fun _ => rfl) (fun _ => trivial) (fun bs g ev wq hS he hr => ?_)) ?_
          · have r0 : ev (.tmp 49) = .pointer (some ⟨B, 1, none⟩) := hr (49, some 3) (by simp); have hk := he.1; clear hr he
            have c0 := Blk.cell hS.out.2.2 1
            go_simp
          refine GFrom.cons (GStep.storem _ rfl _ rfl (fun _ => rfl) (fun _ => trivial) (fun Lx g ev wq hL hd hcl hS he hr => ?_)) ?_
          · have r0 : ev (.tmp 2) = .pointer (some ⟨R0, 0, none⟩) := hr (2, none) (by simp); have r1 : ev (.tmp 46) = frV 0 (.slice none 0 0) := hr (46, some 0) (by simp); clear hr he
            have k : Kp (Jb R0) wq (wq.setCells R0 0 (frL 0 (.slice none 0 0))) := Kp.setCells (S := Jb R0) (fun _ => show R0 = R0 from rfl) _ _ _ (Kp.refl _ wq)
            exact ⟨_, exec_store rfl r0 r1 (fr_store rfl (hS.out.2.1.there 0 2 (Nat.le_refl _))), hid ⟨hS.out.1.trans k (fun _ _ h => h), row_set hS.out.2.1 rfl, Blk.kept hS.out.2.2 k (fun h => by have h' : B = R0 := h; have := LB.out; omega)⟩⟩
          refine GFrom.cons (GStep.val _ rfl rfl _ rfl (fun g => .int .i64 0) (fun _ => rfl) (fun _ => trivial) (fun bs g ev wq hS he hr => ?_)) ?_
          · have hk := he.1; clear hr he
            go_simp
          refine GFrom.cons (GStep.val _ rfl rfl _ rfl (fun g => .int .i64 E) (fun _ => rfl) (fun _ => trivial) (fun bs g ev wq hS he hr => ?_)) ?_
          · have r0 : ev (.tmp 50) = .int .i64 E := hr (50, some 4) (by simp); have hk := he.1; clear hr he
            go_simp
          exact GFrom.nil
        case hS => exact hid ⟨(Kp.refl (Jb R0) wb).drew, Blk.kept HRb.out ((Kp.refl Nb wb).drew) (fun h => h), Blk.kept REb.out ((Kp.refl Nb wb).drew) (fun h => h)⟩
        case hend =>
          intro g wc hc
          have K9 := hid (Kb.out.trans hc.out.1 (fun i hi h => by have h' : i = R0 := h; have := LR0.out; omega))
          have H9 := hid hc.out.2.1
          clear hc
          simp only [putAll, List.zip_cons_cons, List.zip_nil_right, List.foldl_cons, List.foldl_nil, Act.put, List.setIfInBounds_toArray, List.set_cons_zero, List.set_cons_succ]
          go_wp2
          refine bodyPost_ret (results_ctt rfl _ R0 (by rfl) (frV 0 (.slice none 0 0)) (fr_loadVar H9.out)) rfl ?_
          exact ⟨.slice none 0 0, by rw [RR.out]; rfl, by rw [RR.out]; exact BySl.none _, K9.out⟩

end Go.Proofs.Ytmgmghlflldepaa
