/-
  Layer 9: MarksPieces' law: all pieces, one behind the other, are the list. Conditions: marks of 16 bytes.
-/
import Derived.Test.YtijlmfmpfjjlpaaMaY
import Derived.Test.YtijlmfmpfjjlpaaMaP
namespace Go.Proofs.Ytijlmfmpfjjlpaa
open Go.RowKit Go.Shelf

theorem map_flat : ∀ es : List SlE, es.map svE = flatR (fun x => [svE x]) es
  | [] => rfl
  | a :: es => by
    have ih := map_flat es
    unfold flatR at ih ⊢
    rw [List.map_cons, List.flatMap_cons, List.singleton_append, ih]
theorem lpieces_any (v : Value) (xs : List (List Int)) (n m : Int) (hn : -9223372036854775808 ≤ n ∧ n < 9223372036854775808) (w : World) (hs : MkSl w v xs) (hx : xs.length ≤ 100000) :
    Calls Try.prog 26 #[v, .int .i64 n, .int .i64 m] w fun e w' => ∃ v' es, e = .returned v' ∧ (SpM xs n es w' ∧ (es.length = m.toNat ∨ (es.length ≤ m.toNat ∧ ¬ okM xs n es.length))) ∧
      RowsSl (fun x => [svE x]) (none, (0, 0)) 1 w' v' es ∧ (∀ g, v'.ownBlock = some g → g < w'.heap.size) ∧ Kp Nb w w' := by
  refine (callsIn_wide.1 (lpieces_in 3 (Nat.le_refl _) v xs n m hn w hs hx)).mono ?_
  rintro e w' ⟨v', es, rfl, h1, h2, k⟩
  have e1 := map_flat es
  exact ⟨v', es, rfl, h1, rows_owned (by rw [← e1]; exact h2) (fun q _ => rfl), fun g hg => by obtain ⟨-, o, ho, -⟩ := row_cells h2 hg; exact (Array.getElem?_eq_some_iff.1 ho).1, k⟩

theorem take_next (xs : List (List Int)) (c k : Nat) : xs.take (c * k) ++ pieceN xs c k = xs.take (c * (k + 1)) := by
  unfold pieceN
  rw [Nat.mul_add, Nat.mul_one, List.take_add]
theorem piece_len (xs : List (List Int)) (c k : Nat) : (pieceN xs c k).length = min c (xs.length - c * k) := by
  unfold pieceN
  rw [List.length_take, List.length_drop]

set_option maxRecDepth 100000 in
set_option maxHeartbeats 4000000 in
theorem mpcs_any (v : Value) (xs : List (List Int)) (n : Int) (w : World) (hs : MkSl w v xs) (hn : -9223372036854775808 ≤ n ∧ n < 9223372036854775808) :
    Calls Try.prog 7 #[v, .int .i64 n] w fun e w' => e = .returned (.bool true) ∧ Kp Nb w w' := by
  obtain ⟨p0, d0, rfl⟩ := hs.shape
  obtain ⟨N, hN⟩ : ∃ n, xs.length = n := ⟨_, rfl⟩
  rw [hN] at hs ⊢
  have HA := hid hs
  have HNA := hid hN
  have HN := hid hn
  clear hs hN
  go_enter Try.func7, Try.ntmps7
  go_wp2_with fail
  refine (mfirst_any w).mono ?_
  rintro r w1 ⟨rfl, k1⟩
  have HA := hid (HA.out.kept k1)
  have K1 := hid k1
  clear k1
  by_cases h1 : 200 < N
  · go_wp2
    go_ret
    exact ⟨rfl, K1.out⟩
  by_cases h2 : n < 1
  · go_wp2
    go_ret
    exact ⟨rfl, K1.out⟩
  have hB : N ≤ 200 := by omega
  have HB := hid hB
  obtain ⟨c, rfl⟩ : ∃ c : Nat, n = (c : Int) := ⟨n.toNat, by omega⟩
  have HC1 : Hid (1 ≤ c) := hid (by omega)
  go_wp2_with fail
  refine (lpieces_any _ xs c 1000 HN.out w1 HA.out (by have := HNA.out; omega)).mono ?_
  rintro r w2 ⟨vg, es, rfl, ⟨hsp, hend⟩, hrow, -, k2⟩
  obtain ⟨K, hK⟩ : ∃ K, es.length = K := ⟨_, rfl⟩
  have hend' : ¬ c * K < N := by
    rcases hend with h | ⟨-, h⟩
    · have h9 := hsp.1 999 (by rw [h]; decide)
      have h8 := h9.2
      rw [Int.toNat_natCast, HNA.out] at h8
      have : 999 ≤ c * 999 := Nat.le_mul_of_pos_left 999 HC1.out
      omega
    · intro h3
      exact h ⟨by have := HC1.out; omega, by rw [Int.toNat_natCast, HNA.out, hK]; exact h3⟩
  have hKb : K ≤ 200 := by
    rcases Nat.lt_or_ge 200 K with h | h
    · have h9 := (hsp.1 200 (by rw [hK]; exact h)).2
      rw [Int.toNat_natCast, HNA.out] at h9
      have : 200 ≤ c * 200 := Nat.le_mul_of_pos_left 200 HC1.out
      omega
    · exact h
  have hok : ∀ j, j < K → c * j < N := fun j hj => by
    have h := (hsp.1 j (by rw [hK]; exact hj)).2
    rwa [Int.toNat_natCast, HNA.out] at h
  obtain ⟨pg, dg, rfl⟩ := hrow.shape
  have HKE := hid hK
  have HEND := hid hend'
  have HOK := hid hok
  have HKB := hid hKb
  have HSP := hid hsp.2
  have HROW := hid hrow
  have HA := hid (HA.out.kept k2)
  have K2 := hid (K1.out.trans k2 (fun _ _ h => h))
  rw [hK]
  clear hK hend hend' hok hKb hsp hrow k2 K1
  have OK := hid HA.out.ok
  go_wp2_with fail
  go_loopw [5, 23] (fun a i wr => ∃ k : Nat, k ≤ K ∧ i = .int .i64 k ∧ Hid (wr.ownsRow w2.heap.size 24 16 a (xs.take (c * k)).length (flatR markL (xs.take (c * k)))) ∧ Hid (Kp Nb w2 wr)) (fun _ i _ => K - (intOf i).toNat)
  case atStart => exact ⟨0, Nat.zero_le _, rfl, hid ⟨by simp [flatR], .inl ⟨rfl, rfl⟩⟩, hid (Kp.refl _ _)⟩
  case round =>
    obtain ⟨k, hk, rfl, HO, HK⟩ := hrel
    obtain ⟨a5, c5, rfl⟩ := own_shape HO.out
    obtain ⟨L, hL⟩ : ∃ L, (xs.take (c * k)).length = L := ⟨_, rfl⟩
    rw [hL] at HO
    have HL := hid hL
    rw [hL]
    clear hL
    by_cases hlt : k < K
    · obtain ⟨⟨y, l, d⟩, hx⟩ : ∃ x, es[k]? = some x := ⟨_, List.getElem?_eq_getElem (by rw [HKE.out]; exact hlt)⟩
      obtain ⟨hp, -⟩ := HSP.out k _ hx
      have hp := hp.kept HK.out
      rw [Int.toNat_natCast] at hp
      have hl : l = (pieceN xs c k).length := by
        obtain ⟨y', d', e⟩ := hp.shape
        injection e
      have hll := piece_len xs c k
      rw [HNA.out] at hll
      have hck := HOK.out k hlt
      rcases HROW.out with ⟨_, e0⟩ | ⟨bg, og, cg, e1, hcc, hmm, hcell⟩
      · exfalso
        rw [e0] at HKE
        have := HKE.out
        rw [List.length_nil] at this
        omega
      rw [HKE.out] at e1 hcc hcell
      injection e1 with e1 _ e2
      subst e1 e2
      have hc0 := hcell k hlt 0 (svE (y, (l, d))) (by rw [hx]; rfl)
      have c1 : wr.cell? ⟨bg, og + k, none⟩ = some (.slice y l d) := by
        have := HK.out.cell hc0 (fun h => h)
        simpa using this
      have FR : Hid (RowsSl markL (List.replicate 16 0) 16 wr (.slice y l d) (pieceN xs c k)) := hid (mk_rows hp)
      have FL : Hid (∀ q ∈ pieceN xs c k, (markL q).length = 16) := hid (fun q hq => by rw [markL_length]; exact (hp.ok q hq).len)
      have HPL : Hid ((pieceN xs c k).length = l) := hid hl.symm
      have h3 : 0 < l := by rw [hl, hll]; have := HC1.out; omega
      have h4 : (l : Int) ≤ (c : Int) := by rw [hl, hll]; omega
      have h5 : (k : Int) < (K : Int) - 1 → (l : Int) = (c : Int) := fun h => by
        have h6 := HOK.out (k + 1) (by omega)
        rw [Nat.mul_add, Nat.mul_one] at h6
        rw [hl, hll]; omega
      have HTL : Hid (L + l ≤ 400 ∧ xs.take (c * k) ++ pieceN xs c k = xs.take (c * (k + 1))) := hid ⟨by
        rw [← HL.out, hl, hll, List.length_take, HNA.out]; have := HB.out; omega, take_next _ _ _⟩
      have hKb := HKB.out
      have hNN := HN.out
      have n1 : ¬ (l : Int) > (c : Int) := by omega
      have n2 : (l : Int) ≠ 0 := by omega
      obtain ⟨i0, z, hi, hz0, hz1, hz2, hz3⟩ := mark_info3L
      have LL : Hid (L + (pieceN xs c k).length ≤ maxLen ∧ (L + (pieceN xs c k).length) * 16 ≤ 140737488355328 ∧ w2.heap.size ≤ wr.heap.size) := hid (by
        rw [HPL.out]
        have := HTL.out.1
        exact ⟨by unfold maxLen; omega, by omega, HK.out.size⟩)
      clear hc0 hcell hcc hmm hp hl hll hck hx
      have NXT : Hid (∀ (v' : Value) (w' : World), w'.ownsRow w2.heap.size 24 16 v' (L + (pieceN xs c k).length) (flatR markL (xs.take (c * k)) ++ flatR markL (pieceN xs c k)) → w'.ownsRow w2.heap.size 24 16 v' (xs.take (c * (k + 1))).length (flatR markL (xs.take (c * (k + 1))))) := hid (fun v' w' h => by
        rw [← HTL.out.2, List.length_append, flatR_append, HL.out]
        exact h)
      by_cases hlast : (k : Int) < (K : Int) - 1
      · have h6 := h5 hlast
        have n3 : ¬ (l : Int) ≠ (c : Int) := by omega
        go_wp2_with (at_builtin; refine wpList_append_rows (f := markL) (z := List.replicate 16 0) (c := 16) rfl _ _ 22 rfl w2.heap.size 24 i0 z 16 Try.underlying22 hi hz0 hz1 hz2 hz3 (by decide) _ L _ rfl HO.out _ (pieceN xs c k) rfl FR.out FL.out (fun q _ => markL_one' q) LL.out.1 LL.out.2.1 LL.out.2.2 ?_)
        intro v9 w9 hown hgrow
        have KX := hid (HK.out.grown hgrow (fun k hk h => by have := (row_cells HO.out hk).1; omega))
        have HO9 := hid (NXT.out v9 w9 hown)
        obtain ⟨a9, c9, e9⟩ := own_shape HO9.out
        subst e9
        clear hown hgrow
        go_wp2
        go_roundw
        case rel => exact ⟨k + 1, by omega, by go_num, HO9, KX⟩
        case measure => simp [intOf]; omega
      · go_wp2_with (at_builtin; refine wpList_append_rows (f := markL) (z := List.replicate 16 0) (c := 16) rfl _ _ 22 rfl w2.heap.size 24 i0 z 16 Try.underlying22 hi hz0 hz1 hz2 hz3 (by decide) _ L _ rfl HO.out _ (pieceN xs c k) rfl FR.out FL.out (fun q _ => markL_one' q) LL.out.1 LL.out.2.1 LL.out.2.2 ?_)
        intro v9 w9 hown hgrow
        have KX := hid (HK.out.grown hgrow (fun k hk h => by have := (row_cells HO.out hk).1; omega))
        have HO9 := hid (NXT.out v9 w9 hown)
        obtain ⟨a9, c9, e9⟩ := own_shape HO9.out
        subst e9
        clear hown hgrow
        go_wp2
        go_roundw
        case rel => exact ⟨k + 1, by omega, by go_num, HO9, KX⟩
        case measure => simp [intOf]; omega
    · obtain rfl : k = K := by omega
      have hE : xs.take (c * k) = xs := List.take_of_length_le (by rw [HNA.out]; have := HEND.out; omega)
      have HS1 : Hid (MkSl wr (.slice a5 L c5) xs) := hid (by
        have h := HO.out
        rw [← HL.out, hE] at h
        rw [← HL.out, hE]
        exact mk_of_rows (rows_owned h (fun q hq => by rw [markL_length]; exact (OK.out q hq).len)) OK.out)
      have HS2 := hid (HA.out.kept HK.out)
      clear HO
      go_wp2_with fail
      refine (msame_any _ _ xs xs wr HS1.out HS2.out (by have := HNA.out; have := HB.out; omega) (by have := HNA.out; have := HB.out; omega)).mono ?_
      rintro r w4 ⟨rfl, k4⟩
      rw [decide_eq_true rfl]
      have K4 := hid ((K2.out.trans HK.out (fun _ _ h => h)).trans k4 (fun _ _ h => h))
      clear k4
      go_wp2
      go_ret
      exact ⟨rfl, K4.out⟩

end Go.Proofs.Ytijlmfmpfjjlpaa
