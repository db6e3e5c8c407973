/-
  Layer 1: the walk of SipPlays (under way). Condition: what an int is.
-/
import Derived.Test.YtfbpaakgifnmaaaSipJ
import Derived.Test.YtfbpaakgifnmaaaOpenPlay
import Derived.Test.YtfbpaakgifnmaaaRefH
import Derived.Deep.CutBlock
import Derived.Deep.DeepCutAuto
namespace Go.Proofs.Ytfbpaakgifnmaaa
open Go.RowKit

def PlR (w : World) (a b : Int) (va vw i : Value) (wr : World) : Prop :=
  ∃ (k : Nat) (Bs : List Nat) (pl : List (List Int)), k ≤ 40 ∧ i = .int .i64 k ∧ pl.length ≤ k + 1 ∧ 1 ≤ pl.length ∧ Hid (Many w a b va vw Bs pl pl wr) ∧ Hid (∀ j, IsBytes (zAt pl j) ∧ (zAt pl j).length ≤ 300 * k)

def PlE (wr : World) (n : Nat) (i : Value) (wy : World) : Prop := ∃ j : Nat, j ≤ n ∧ i = .int .i64 j ∧ Hid (Kp Nb wr wy)
/-- What the switch leaves. -/
def PlC (w : World) (a b : Int) (k J : Nat) (va vw : Value) (wr : World) : Prop :=
  ∃ (Bs : List Nat) (pl : List (List Int)), pl.length ≤ k + 2 ∧ 1 ≤ pl.length ∧ J < pl.length ∧ Hid (Many w a b va vw Bs pl pl wr) ∧ Hid (∀ j, IsBytes (zAt pl j) ∧ (zAt pl j).length ≤ 300 * (k + 1))
theorem many_start {w w' : World} {a b : Int} {B A C : Nat} (hB : SipAt w' B (Sp.init a b)) (hk : Kp Nb w w') (h0 : w.heap.size ≤ B) (hA : Blk w' A 38 [.pointer (some ⟨B, 0, none⟩)]) (hC : Blk w' C 9 [.string (st [])]) (h1 : w.heap.size ≤ A) (h2 : w.heap.size ≤ C) :
    Many w a b (.slice (some ⟨A, 0, none⟩) 1 1) (.slice (some ⟨C, 0, none⟩) 1 1) [B] [[]] [[]] w' := by
  refine ⟨rfl, rfl, ⟨rfl, .inr ⟨A, 1, #[.pointer (some ⟨B, 0, none⟩)], rfl, h1, hA, Nat.le_refl _, by decide, rfl, rfl⟩⟩, ⟨rfl, .inr ⟨C, 1, #[.string (st [])], rfl, h2, hC, Nat.le_refl _, by decide, rfl, rfl⟩⟩, fun j hj => ?_, fun i j hi hj _ => ?_, fun j hj => ?_, hk⟩
  · obtain rfl : j = 0 := by simpa using hj
    exact h0
  · simp at hi hj
    omega
  · obtain rfl : j = 0 := by simpa using hj
    exact hB

theorem row_some {w : World} {base e size n c : Nat} {x : Option Addr} {xs : List Value} (h : w.ownsRow base e size (.slice x n c) n xs) (hn : 0 < n) : ∃ g, x = some ⟨g, 0, none⟩ := by
  rcases h.2 with ⟨h', h0⟩ | ⟨g, cap, cur, h', _⟩
  · omega
  · injection h' with h1 _ _
    exact ⟨g, h1⟩
theorem u64_range (x : Int) : 0 ≤ IntKind.u64.wrap x ∧ IntKind.u64.wrap x < 18446744073709551616 := by
  have h1 := Int.emod_nonneg x (show (18446744073709551616 : Int) ≠ 0 by decide)
  have h2 := Int.emod_lt_of_pos x (show (0 : Int) < 18446744073709551616 by decide)
  exact ⟨h1, h2⟩
theorem u64_same (x : Int) (h0 : 0 ≤ x) (h1 : x < 18446744073709551616) : IntKind.u64.wrap x = x := Int.emod_eq_of_lt h0 h1

set_option maxRecDepth 100000 in
set_option maxHeartbeats 2000000 in
theorem plays_walk (a b : Int) (v : Value) (os : List (Int × Int × List Int)) (w : World) (h : PlaySl w v os) (hr : PlayOk os) :
    Calls Try.prog 4 #[.agg #[.int .u64 a, .int .u64 b], v] w fun e w' => e = .returned (.bool true) ∧ Kp Nb w w' := by
  obtain ⟨y, d, rfl⟩ := h.shape
  have H := hid h
  have HR := hid hr
  clear h hr
  go_enter Try.func4, Try.ntmps4
  go_wp2_with fail
  refine (first_any _).mono ?_
  rintro e w1 ⟨rfl, k1⟩
  have hbk := (Blk.new w 24 [.int .u64 a, .int .u64 b]).kept k1 (fun h => h)
  have q0 : w1.cell? ⟨w.heap.size, 0, none⟩ = some (.int .u64 a) := hbk.cell 0
  have q1 : w1.cell? ⟨w.heap.size, 1, none⟩ = some (.int .u64 b) := hbk.cell 1
  have kw := (Kp.refl Nb w).alloc (.cells #[.int .u64 a, .int .u64 b] 24)
  have K1 := hid (kw.trans k1 (fun _ _ h => h))
  have HBK := hid hbk
  clear k1 kw hbk
  go_wp2_with fail
  refine (new_any a b _).mono ?_
  rintro e w2 ⟨B, hB, rfl, hs, k2⟩
  have HS := hid hs
  have K2 := hid k2
  have HB := hid hB
  clear hs k2 hB q0 q1
  go_wp2
  have hst : Many w1 a b (.slice (some ⟨w2.heap.size, 0, none⟩) 1 1) (.slice (some ⟨w2.heap.size + 1, 0, none⟩) 1 1) [B] [[]] [[]] ((w2.alloc (.cells #[.pointer (some ⟨B, 0, none⟩)] 38)).alloc (.cells #[.string (st [])] 9)) := by
    have hc := Blk.new (w2.alloc (.cells #[.pointer (some ⟨B, 0, none⟩)] 38)) 9 [.string (st [])]
    rw [World.size_alloc] at hc
    have hle := K2.out.size
    exact many_start ((HS.out.alloc _).alloc _) ((K2.out.alloc _).alloc _) HB.out ((Blk.new w2 38 [.pointer (some ⟨B, 0, none⟩)]).alloc _) hc (by omega) (by omega)
  have HST := hid hst
  clear hst HS HB
  go_loopw [5, 6, 21] (fun va vw i wr => PlR w1 a b va vw i wr) (fun _ _ i _ => os.length - (intOf i).toNat)
  case atStart => exact ⟨0, [B], [[]], by omega, rfl, by simp, by simp, HST, fun j => by cases j <;> simp [zAt, IsBytes]⟩
  case round =>
    clear HST K2
    obtain ⟨k, Bs, pl, hk, rfl, hl1, hl2, HM, HL⟩ := hrel
    by_cases hlt : k < os.length
    · have hP := H.out.kept K1.out
      rcases hP with ⟨_, e0⟩ | ⟨blk, off, cap, e1, hc, hm, hcell⟩
      · rw [e0] at hlt
        exact absurd hlt (Nat.not_lt_zero _)
      · injection e1 with e1 _ e2
        subst e1 e2
        obtain ⟨c0', c1', bv, c2', hby⟩ := hcell k hlt
        have c0 := HM.out.kp.cell c0' (fun h => h)
        have c1 := HM.out.kp.cell c1' (fun h => h)
        have c2 := HM.out.kp.cell c2' (fun h => h)
        clear c0' c1' c2'
        obtain ⟨bx, bd, rfl⟩ : ∃ x d, bv = .slice x (playAt os k).2.2.length d := by
          rcases hby.2 with ⟨⟨a, c, rfl⟩, e⟩ | ⟨blk, off, cap, rfl, _⟩
          · rw [e]; exact ⟨a, c, rfl⟩
          · exact ⟨_, _, rfl⟩
        have hrg := HR.out k
        obtain ⟨kd, hkd⟩ : ∃ z, z = (playAt os k).1 := ⟨_, rfl⟩
        obtain ⟨at_, hat⟩ : ∃ z, z = (playAt os k).2.1 := ⟨_, rfl⟩
        obtain ⟨zs, hzs⟩ : ∃ z, z = (playAt os k).2.2 := ⟨_, rfl⟩
        rw [← hkd] at c0 hrg
        rw [← hat] at c1 hrg
        rw [← hzs] at c2 hby
        have HBY := hid hby
        clear hcell hby hkd hat hzs
        by_cases hk40 : 40 ≤ k
        · go_wp2
          go_ret
          exact ⟨rfl, (K1.out.trans HM.out.kp (fun _ _ h => h)).alloc _⟩
        · by_cases hz3 : 300 < zs.length
          · go_wp2
            go_ret
            exact ⟨rfl, (K1.out.trans HM.out.kp (fun _ _ h => h)).alloc _⟩
          · have hd1 : decide ((k : Int) ≥ 40) = false := decide_eq_false (by omega)
            have hd2 : decide ((zs.length : Int) > 300) = false := decide_eq_false (by omega)
            obtain ⟨ax, ac, rfl⟩ := own_slice HM.out.ra
            obtain ⟨wx, wc, rfl⟩ := own_slice HM.out.rs
            obtain ⟨ga, rfl⟩ := row_some HM.out.ra (by omega)
            obtain ⟨gw, rfl⟩ := row_some HM.out.rs (by omega)
            obtain ⟨A, hA⟩ : ∃ A, A = IntKind.u64.wrap at_ := ⟨_, rfl⟩
            have hA0 : 0 ≤ A ∧ A < 18446744073709551616 := by rw [hA]; exact u64_range _
            obtain ⟨J, hJ⟩ : ∃ J : Nat, (J : Int) = A % (pl.length : Int) := ⟨(A % (pl.length : Int)).toNat, Int.toNat_of_nonneg (Int.emod_nonneg _ (by omega))⟩
            have hJ2 : (J : Int) < pl.length := by rw [hJ]; exact Int.emod_lt_of_pos _ (by omega)
            have hn0 : (((pl.length : Int) == 0) : Bool) = false := by rw [beq_eq_false_iff_ne]; omega
            have hA2 : IntKind.u64.wrap at_ = A := hA.symm
            have hJ3 : A.tmod (pl.length : Int) = (J : Int) := by rw [Int.tmod_eq_emod_of_nonneg hA0.1]; exact hJ.symm
            obtain ⟨C, hC⟩ : ∃ C, C = IntKind.u64.wrap kd := ⟨_, rfl⟩
            have hC0 : 0 ≤ C ∧ C < 18446744073709551616 := by rw [hC]; exact u64_range _
            have hC2 : IntKind.u64.wrap kd = C := hC.symm
            obtain ⟨R, hR⟩ : ∃ R : Nat, (R : Int) = C % 3 := ⟨(C % 3).toNat, by omega⟩
            have hR2 : R < 3 := by omega
            have hR3 : C.tmod 3 = (R : Int) := by rw [Int.tmod_eq_emod_of_nonneg hC0.1]; exact hR.symm
            have hnw : IntKind.u64.wrap (pl.length : Int) = (pl.length : Int) := u64_same _ (by omega) (by omega)
            have hJw : IntKind.i64.wrap (J : Int) = (J : Int) := IntWalk.i64_in _ (by omega)
            clear hA hC hJ hR hA0 hC0 hrg
            have HMA := hid (HM.out.keep ((Kp.refl Nb wr).alloc (.cells #[.int .i64 kd, .int .i64 at_, .slice bx zs.length bd] 44)))
            have HOB := hid (Blk.new wr 44 [.int .i64 kd, .int .i64 at_, .slice bx zs.length bd])
            go_upto_block 2 with fail
            obtain ⟨wz, hwz⟩ : ∃ wz, wz = wr.alloc (.cells #[.int .i64 kd, .int .i64 at_, .slice bx zs.length bd] 44) := ⟨_, rfl⟩
            rw [← hwz] at HMA ⊢
            have hbl : bAt Bs J < wr.heap.size := Blk.lt (HM.out.sums J (by omega))
            have HOZ : Hid (Blk wz wr.heap.size 44 [.int .i64 kd, .int .i64 at_, .slice bx zs.length bd]) := by rw [hwz]; exact HOB.out
            clear hwz HOB HM
            go_cut [5, 6] (fun va vw wx => PlC w1 a b k J va vw wx)
            case first =>
              rcases (show R = 0 ∨ R = 1 ∨ R = 2 by omega) with h | h | h
              · subst h
                have cp := (HMA.out.ra.cellAt J (by omega)).trans (HMA.out.ptr (by omega))
                have co2 : wz.cell? ⟨wr.heap.size, 2, none⟩ = some (.slice bx zs.length bd) := HOZ.out.cell 2
                have hsm := HMA.out.sums J (by omega)
                have hnew := HMA.out.new J (by omega)
                have hbf : BySl (Jb (bAt Bs J)) wz (.slice bx zs.length bd) zs := HBY.out.fresh (bAt Bs J) hnew Nb HMA.out.kp (fun _ _ h => h)
                obtain ⟨BJ, hBJ⟩ : ∃ B, B = bAt Bs J := ⟨_, rfl⟩
                rw [← hBJ] at cp hsm hbf hbl
                have HBJ := hid hBJ
                have HSM := hid hsm
                have HBF := hid hbf
                have HNL : Hid (((Sp.init a b).write (zAt pl J)).n + zs.length < 4611686018427387904) := by
                  unfold Hid
                  rw [Sp.write_n]
                  have := (HL.out J).2
                  show 0 + _ + _ < _
                  omega
                clear hBJ hsm hbf
                go_upto_region 12 with fail
                go_still_tail 6, (by kernel_rfl)
                go_wp2_with fail
                refine (write_any BJ _ _ zs wz.drew (Blk.drew HSM.out) (Sp.write_ok _ _ (Sp.init_ok a b)) HNL.out (HBF.out.kept ((Kp.refl (Jb BJ) wz).drew) (fun _ h => h))).mono ?_
                rintro e w4 ⟨rfl, hs4, k4⟩
                have HM4 := hid ((HMA.out.keep ((Kp.refl Nb wz).drew)).write (j := J) (zs := zs) (by omega) (by rw [← HBJ.out]; exact hs4) (by rw [← HBJ.out]; exact k4))
                have rs4 := HM4.out.rs
                rw [List.length_set] at rs4
                have cw4 : w4.cell? ⟨gw, J, none⟩ = some (.string (st (zAt pl J))) := (rs4.cellAt J (by omega)).trans (HM4.out.str (by rw [List.length_set]; omega))
                have fw4 := rs4.frozenAt J
                have co4 : w4.cell? ⟨wr.heap.size, 2, none⟩ = some (.slice bx zs.length bd) := k4.cell (a := wz.drew) co2 (fun h => by have h' : wr.heap.size = BJ := h; omega)
                have hcv4 : (convert 42 9 (.slice bx zs.length bd)).run Try.prog w4.drew = .ok (.string (st zs)) w4.drew := conv_any ((HBY.out.kept HM4.out.kp (fun _ h => h)).kept ((Kp.refl Nb w4).drew) (fun _ h => h))
                have hsum : ¬ (9223372036854775807 < (st (zAt pl J)).size + (st zs).size) := by rw [st_size, st_size]; have := (HL.out J).2; omega
                have hst5 := (rs4.drew.stored J (.string (st (zAt pl J) ++ st zs))).1
                rw [← st_append] at hst5
                have hks : Kp (Jb gw) w4.drew (w4.drew.setCell ⟨gw, J, none⟩ (.string (st (zAt pl J ++ zs)))) := (Kp.refl (Jb gw) w4.drew).set J _
                have HMF := hid ((HM4.out.keep ((Kp.refl Nb w4).drew)).store (zs := zAt pl J ++ zs) (j := J) (by rw [List.length_set]; exact hst5) gw rfl hks)
                have HLF : Hid (∀ j, IsBytes (zAt (pl.set J (zAt pl J ++ zs)) j) ∧ (zAt (pl.set J (zAt pl J ++ zs)) j).length ≤ 300 * (k + 1)) := fun j => by
                  by_cases hj : J = j
                  · subst hj
                    rw [zAt_set _ _ _ (by omega), List.length_append]
                    exact ⟨(HL.out J).1.append HBY.out.1, by have := (HL.out J).2; omega⟩
                  · have e : zAt (pl.set J (zAt pl J ++ zs)) j = zAt pl j := by
                      show (pl.set J (zAt pl J ++ zs))[j]?.getD [] = pl[j]?.getD []
                      rw [List.getElem?_set_ne hj]
                    rw [e]
                    exact ⟨(HL.out j).1, by have := (HL.out j).2; omega⟩
                obtain ⟨s1, hs1⟩ : ∃ s, s = st (zAt pl J) := ⟨_, rfl⟩
                obtain ⟨s2, hs2⟩ : ∃ s, s = st zs := ⟨_, rfl⟩
                have HSS : Hid (st (zAt pl J ++ zs) = s1 ++ s2) := by rw [hs1, hs2]; exact st_append _ _
                rw [← hs1] at cw4 hsum
                rw [← hs2] at hcv4 hsum
                clear hst5 hks rs4 hs1 hs2 cp co2 hs4 k4
                go_upto_region 13 with fail
                go_still_tail 9, (by kernel_rfl)
                go_wp2
                go_meet
                exact ⟨Bs, pl.set J (zAt pl J ++ zs), by rw [List.length_set]; omega, by rw [List.length_set]; omega, by rw [List.length_set]; omega, by rw [HSS.out] at HMF; exact HMF, HLF⟩
              · subst h
                have cp := (HMA.out.ra.cellAt J (by omega)).trans (HMA.out.ptr (by omega))
                have cw := (HMA.out.rs.cellAt J (by omega)).trans (HMA.out.str (by omega))
                have hsm := HMA.out.sums J (by omega)
                obtain ⟨BJ, hBJ⟩ : ∃ B, B = bAt Bs J := ⟨_, rfl⟩
                rw [← hBJ] at cp hsm
                obtain ⟨i0, hi, hz0, hz1, hz2⟩ := info_parts info_sipp
                obtain ⟨i1, hj, hy0, hy1, hy2⟩ := info_parts info_strg
                have DU := hid (Duo.mk HMA.out.ra HMA.out.rs hsm (Kp.refl _ wz) : Duo wz w1.heap.size ga gw pl.length ac wc (ptrs Bs) (strs pl) BJ ((Sp.init a b).write (zAt pl J)) wz)
                have HU1 := hid (HMA.out.ptr (show J < pl.length by omega))
                have HU2 := hid (HMA.out.str (show J < pl.length by omega))
                rw [← hBJ] at HU1
                obtain ⟨s1, hs1⟩ : ∃ s, s = st (zAt pl J) := ⟨_, rfl⟩
                rw [← hs1] at cw HU2
                have HS1 := hid hs1
                have HJ := hid (show J < pl.length by omega)
                have HLO : Hid (w1.heap.size ≤ wz.heap.size) := hid HMA.out.kp.size
                have HPL := hid (show pl.length ≤ 41 by omega)
                have HL3 : Hid (pl.length + 1 ≤ k + 2 ∧ 1 ≤ pl.length + 1 ∧ J < pl.length + 1) := hid ⟨by omega, by omega, by omega⟩
                have HLF : Hid (∀ j, IsBytes (zAt (pl ++ [zAt pl J]) j) ∧ (zAt (pl ++ [zAt pl J]) j).length ≤ 300 * (k + 1)) := hid fun j => by
                  rcases zAt_snoc pl (zAt pl J) j with e | e
                  · rw [e]; exact ⟨(HL.out j).1, by have := (HL.out j).2; omega⟩
                  · rw [e]; exact ⟨(HL.out J).1, by have := (HL.out J).2; omega⟩
                clear hs1 hBJ hsm
                go_upto_region 15 with fail
                go_region_held3 (fun w' => Hid (Duo wz w1.heap.size ga gw pl.length ac wc (ptrs Bs) (strs pl) BJ ((Sp.init a b).write (zAt pl J)) w') ∧ w'.cell? ⟨ga, J, none⟩ = some (.pointer (some ⟨BJ, 0, none⟩)) ∧ w'.cell? ⟨gw, J, none⟩ = some (.string s1))
                  (exact duo_held (by repeat (first | with_reducible assumption | with_reducible apply duo_drew | with_reducible apply duo_alloc)) HJ HU1 HU2)
                  (first
                    | (go_at_call 23; refine (sipclone_at BJ _ _ (duo_sip (by repeat (first | with_reducible assumption | with_reducible apply duo_drew | with_reducible apply duo_alloc)))).mono ?_; rintro e wy ⟨C, rfl, hC, hsc, kk⟩; have kD := duo_keptN (by repeat (first | with_reducible assumption | with_reducible apply duo_drew | with_reducible apply duo_alloc)) kk; have kC := hid (duo_low2 (by repeat (first | with_reducible assumption | with_reducible apply duo_drew | with_reducible apply duo_alloc)) hC); have kS := hid hsc; have kN := hid kk; clear hC hsc kk)
                    | (refine step_append_keep _ (by rfl) _ _ 40 (by rfl) w1.heap.size 38 i0 (.pointer none) 1 8 Try.underlying40 hi hz0 hz1 hz2 rfl (by decide) ga pl.length ac (ptrs Bs) (by rfl) (duo_ra (by repeat (first | with_reducible assumption | with_reducible apply duo_drew | with_reducible apply duo_alloc))) _ 1 1 [.pointer (some ⟨C, 0, none⟩)] (by rfl) (by rfl) (news_of_blk (t := 38) (by repeat (first | with_reducible exact Blk.newAt (by simp) | with_reducible apply Blk.drew | with_reducible apply Blk.alloc | refine Mv.blk (by with_reducible assumption) (by decide) ?_ | refine Blk.keptN (by with_reducible assumption) ?_))) (by simp [Value.oneCell']) (by decide) (by unfold maxLen; have := HPL.out; omega) (by have := HPL.out; omega) (duo_low (by repeat (first | with_reducible assumption | with_reducible apply duo_drew | with_reducible apply duo_alloc)) HLO) ?_; intro g1 cap1 w3 hown1 hgrow hat hold; have kM := duo_mvA (by repeat (first | with_reducible assumption | with_reducible apply duo_drew | with_reducible apply duo_alloc)) hgrow; have kD := duo_appA (by repeat (first | with_reducible assumption | with_reducible apply duo_drew | with_reducible apply duo_alloc)) hgrow hold; have kA := hid hown1; clear hown1 hgrow hat hold)
                    | (refine step_append_keep _ (by rfl) _ _ 41 (by rfl) w1.heap.size 9 i1 (.string (st [])) 1 16 Try.underlying41 hj hy0 hy1 hy2 rfl (by decide) gw pl.length wc (strs pl) (by rfl) (duo_rs (by repeat (first | with_reducible assumption | with_reducible apply duo_drew | with_reducible apply duo_alloc))) _ 1 1 [.string s1] (by rfl) (by rfl) (news_of_blk (t := 9) (by repeat (first | with_reducible exact Blk.newAt (by simp) | with_reducible apply Blk.drew | with_reducible apply Blk.alloc | refine Mv.blk (by with_reducible assumption) (by decide) ?_ | refine Blk.keptN (by with_reducible assumption) ?_))) (by simp [Value.oneCell']) (by decide) (by unfold maxLen; have := HPL.out; omega) (by have := HPL.out; omega) (duo_low (by repeat (first | with_reducible assumption | with_reducible apply duo_drew | with_reducible apply duo_alloc)) HLO) ?_; intro g2 cap2 w3 hown1 hgrow hat hold; have kM := duo_mvW (by repeat (first | with_reducible assumption | with_reducible apply duo_drew | with_reducible apply duo_alloc)) hgrow; have kD := duo_appW (by repeat (first | with_reducible assumption | with_reducible apply duo_drew | with_reducible apply duo_alloc)) hgrow hold; have kW := hid hown1; clear hown1 hgrow hat hold))
                all_goals
                  go_wp2
                  go_meet
                  exact ⟨Bs ++ [C], pl ++ [zAt pl J], by rw [List.length_append]; exact HL3.out.1, by rw [List.length_append]; exact HL3.out.2.1, by rw [List.length_append]; exact HL3.out.2.2, hid (HMA.out.more (by repeat (first | with_reducible exact kA.out | with_reducible apply row_drew | with_reducible apply row_alloc | refine Mv.row (by with_reducible assumption) (by decide) ?_ | refine row_keptN (by with_reducible assumption) ?_)) (by rw [← HS1.out]; repeat (first | with_reducible exact kW.out | with_reducible apply row_drew | with_reducible apply row_alloc | refine Mv.row (by with_reducible assumption) (by decide) ?_ | refine row_keptN (by with_reducible assumption) ?_)) (by repeat (first | exact kS.out | with_reducible apply Blk.drew | with_reducible apply Blk.alloc | refine Mv.blk (by with_reducible assumption) (by decide) ?_ | refine Blk.keptN (by with_reducible assumption) ?_)) kC.out (duo_kp (by repeat (first | with_reducible assumption | with_reducible apply duo_drew | with_reducible apply duo_alloc))) (fun x hx => hx.elim (fun e => .inl (by rw [e]; rfl)) (fun e => .inr (by rw [e]; rfl)))), HLF⟩
              · subst h
                go_wp2
                go_meet
                exact ⟨Bs, pl, by omega, by omega, by omega, HMA, fun j => ⟨(HL.out j).1, by have := (HL.out j).2; omega⟩⟩
            case rest =>
              obtain ⟨Bs', pl', hp1, hp2, hp3, HM', HL'⟩ := hcut
              clear HMA HOZ HBY HL
              obtain ⟨ax', ac', rfl⟩ := own_slice HM'.out.ra
              obtain ⟨wx', wc', rfl⟩ := own_slice HM'.out.rs
              obtain ⟨ga', rfl⟩ := row_some HM'.out.ra (by omega)
              obtain ⟨gw', rfl⟩ := row_some HM'.out.rs (by omega)
              have cp := (HM'.out.ra.cellAt J (by omega)).trans (HM'.out.ptr (by omega))
              have cs := (HM'.out.rs.cellAt J (by omega)).trans (HM'.out.str (by omega))
              have hbz := HBK.out.kept HM'.out.kp (fun h => h)
              have q0 : wc.cell? ⟨w.heap.size, 0, none⟩ = some (.int .u64 a) := hbz.cell 0
              have q1 : wc.cell? ⟨w.heap.size, 1, none⟩ = some (.int .u64 b) := hbz.cell 1
              have H1 := hid cp
              have H2 := hid cs
              have H3 := hid q0
              have H4 := hid q1
              have HSM := hid (HM'.out.sums J hp3)
              have HBY2 := hid (HL'.out J).1
              have HLN : Hid ((zAt pl' J).length < 4611686018427387904) := hid (by have := (HL'.out J).2; omega)
              obtain ⟨BJ, hBJ⟩ : ∃ B, bAt Bs' J = B := ⟨_, rfl⟩
              obtain ⟨S1, hS1⟩ : ∃ s, st (zAt pl' J) = s := ⟨_, rfl⟩
              obtain ⟨hh, ehh⟩ : ∃ hh, hash a b (zAt pl' J) = hh := ⟨_, rfl⟩
              rw [hBJ] at cp H1 HSM
              rw [hS1] at cs H2
              have CS : Hid (∀ wx, Hid (Kp Nb wc wx) → Calls Try.prog 24 #[.pointer (some ⟨BJ, 0, none⟩)] wx fun e w' => e = .returned (.int .u64 hh) ∧ Kp Nb wx w') := hid (fun wx k => by rw [← ehh]; exact sum_any BJ _ wx (Blk.kept HSM.out k.out (fun h => h)) (by rw [Sp.write_n]; have := HLN.out; show 0 + _ < _; omega))
              have CR : Hid (∀ wx, Calls Try.prog 16 #[.agg #[.int .u64 a, .int .u64 b], .string S1] wx fun e w' => e = .returned (.int .u64 hh) ∧ Kp Nb wx w') := hid (fun wx => by rw [← ehh, ← hS1]; exact ref_hash a b (zAt pl' J) wx HBY2.out HLN.out)
              have CL : Hid (∀ wx, Hid (Kp Nb wc wx) → Calls Try.prog 25 #[.pointer (some ⟨BJ, 0, none⟩)] wx fun e w' => e = .returned (.int .i64 (S1.size : Int)) ∧ wx = w') := hid (fun wx k => by
                have h := len_any BJ _ wx (Blk.kept HSM.out k.out (fun h => h))
                have e : ((((Sp.init a b).write (zAt pl' J)).n : Nat) : Int) = (S1.size : Int) := by rw [Sp.write_n, ← hS1, st_size]; show ((0 + _ : Nat) : Int) = _; rw [Nat.zero_add]
                rw [e] at h
                exact h)
              have HK0 := hid (Kp.refl Nb wc)
              clear hbz hBJ hS1 ehh hbl
              go_wp2_with fail
              go_region_held3 (fun w' => Hid (Kp Nb wc w') ∧ w'.cell? ⟨ga', J, none⟩ = some (.pointer (some ⟨BJ, 0, none⟩)) ∧ w'.cell? ⟨gw', J, none⟩ = some (.string S1) ∧ w'.cell? ⟨w.heap.size, 0, none⟩ = some (.int .u64 a) ∧ w'.cell? ⟨w.heap.size, 1, none⟩ = some (.int .u64 b))
                (exact four_held H1 H2 H3 H4 (by repeat (first | with_reducible assumption | with_reducible apply hkp_drew | with_reducible apply hkp_alloc)))
                (first
                  | (go_at_call 24; refine (CS.out _ (by repeat (first | with_reducible assumption | with_reducible apply hkp_drew | with_reducible apply hkp_alloc))).mono ?_; rintro e wy ⟨rfl, kk'⟩; have kh := hkp_trans (by repeat (first | with_reducible assumption | with_reducible apply hkp_drew | with_reducible apply hkp_alloc)) kk'; clear kk')
                  | (go_at_call 16; refine (CR.out _).mono ?_; rintro e wy ⟨rfl, kk'⟩; have kh := hkp_trans (by repeat (first | with_reducible assumption | with_reducible apply hkp_drew | with_reducible apply hkp_alloc)) kk'; clear kk')
                  | (go_at_call 25; refine (CL.out _ (by repeat (first | with_reducible assumption | with_reducible apply hkp_drew | with_reducible apply hkp_alloc))).mono ?_; rintro e wy ⟨rfl, rfl⟩))
              have HK := hid (HM'.out.keep kh.out)
              have HKI := hid (show k + 1 ≤ 40 ∧ pl'.length ≤ k + 1 + 1 by omega)
              go_wp2
              trace_state
              go_roundw
              case rel => exact ⟨k + 1, Bs', pl', HKI.out.1, by go_num, HKI.out.2, hp2, HK, HL'⟩
              case measure => simp [intOf]; omega
    · obtain ⟨ax, ac, rfl⟩ := own_slice HM.out.ra
      obtain ⟨wx, wc, rfl⟩ := own_slice HM.out.rs
      obtain ⟨ga, rfl⟩ := row_some HM.out.ra (by omega)
      obtain ⟨gw, rfl⟩ := row_some HM.out.rs (by omega)
      have HKW : Hid (Kp Nb w wr) := hid (K1.out.trans HM.out.kp (fun _ _ h => h))
      have hpm : pl.length ≤ 41 := by omega
      go_wp2
      go_loopw [109] (fun i wy => PlE wr pl.length i wy) (fun i _ => pl.length - (intOf i).toNat)
      case atStart => exact ⟨0, by omega, rfl, hid (Kp.refl Nb wr)⟩
      case round =>
        obtain ⟨j, hj, rfl, HKR⟩ := hrel
        by_cases hjl : j < pl.length
        · have hm := HM.out.keep HKR.out
          have cp := (hm.ra.cellAt j (by omega)).trans (hm.ptr hjl)
          have cs := (hm.rs.cellAt j (by omega)).trans (hm.str hjl)
          have hbz := HBK.out.kept hm.kp (fun h => h)
          have q0 : wr.cell? ⟨w.heap.size, 0, none⟩ = some (.int .u64 a) := hbz.cell 0
          have q1 : wr.cell? ⟨w.heap.size, 1, none⟩ = some (.int .u64 b) := hbz.cell 1
          have H1 := hid cp
          have H2 := hid cs
          have H3 := hid q0
          have H4 := hid q1
          have HSM := hid (hm.sums j hjl)
          have HBY2 := hid (HL.out j).1
          have HLN : Hid ((zAt pl j).length < 4611686018427387904) := hid (by have := (HL.out j).2; omega)
          obtain ⟨BJ, hBJ⟩ : ∃ B, bAt Bs j = B := ⟨_, rfl⟩
          obtain ⟨S1, hS1⟩ : ∃ s, st (zAt pl j) = s := ⟨_, rfl⟩
          obtain ⟨hh, ehh⟩ : ∃ hh, hash a b (zAt pl j) = hh := ⟨_, rfl⟩
          rw [hBJ] at cp H1 HSM
          rw [hS1] at cs H2
          have CS : Hid (∀ wx, Hid (Kp Nb wr wx) → Calls Try.prog 24 #[.pointer (some ⟨BJ, 0, none⟩)] wx fun e w' => e = .returned (.int .u64 hh) ∧ Kp Nb wx w') := hid (fun wx k => by rw [← ehh]; exact sum_any BJ _ wx (Blk.kept HSM.out k.out (fun h => h)) (by rw [Sp.write_n]; have := HLN.out; show 0 + _ < _; omega))
          have CR : Hid (∀ wx, Calls Try.prog 16 #[.agg #[.int .u64 a, .int .u64 b], .string S1] wx fun e w' => e = .returned (.int .u64 hh) ∧ Kp Nb wx w') := hid (fun wx => by rw [← ehh, ← hS1]; exact ref_hash a b (zAt pl j) wx HBY2.out HLN.out)
          have HK0 := hid (Kp.refl Nb wr)
          clear hbz hBJ hS1 ehh hm
          go_wp2_with fail
          go_region_held3 (fun w' => Hid (Kp Nb wr w') ∧ w'.cell? ⟨ga, j, none⟩ = some (.pointer (some ⟨BJ, 0, none⟩)) ∧ w'.cell? ⟨gw, j, none⟩ = some (.string S1) ∧ w'.cell? ⟨w.heap.size, 0, none⟩ = some (.int .u64 a) ∧ w'.cell? ⟨w.heap.size, 1, none⟩ = some (.int .u64 b))
            (exact four_held H1 H2 H3 H4 (by repeat (first | with_reducible assumption | with_reducible apply hkp_drew | with_reducible apply hkp_alloc)))
            (first
              | (go_at_call 24; refine (CS.out _ (by repeat (first | with_reducible assumption | with_reducible apply hkp_drew | with_reducible apply hkp_alloc))).mono ?_; rintro e wy ⟨rfl, kk'⟩; have kh := hkp_trans (by repeat (first | with_reducible assumption | with_reducible apply hkp_drew | with_reducible apply hkp_alloc)) kk'; clear kk')
              | (go_at_call 16; refine (CR.out _).mono ?_; rintro e wy ⟨rfl, kk'⟩; have kh := hkp_trans (by repeat (first | with_reducible assumption | with_reducible apply hkp_drew | with_reducible apply hkp_alloc)) kk'; clear kk'))
          have HKI := hid (show j + 1 ≤ pl.length by omega)
          have HKJ := hkp_trans HKR kh.out
          go_wp2
          go_roundw
          case rel => exact ⟨j + 1, HKI.out, by go_num, HKJ⟩
          case measure => simp [intOf]; omega
        · obtain rfl : j = pl.length := by omega
          have HKF : Hid (Kp Nb w wr) := hkp_trans HKW HKR.out
          have HKG := hid (HKF.out.alloc (.cells #[.int .u8 1] 5))
          go_wp2_with (first
            | (go_at_call 22; refine (sipwrite_nil _ _).mono ?_; rintro e wy ⟨rfl, rfl⟩)
            | (go_at_call 24; refine (sipsum_nil _).mono ?_; rintro e wy ⟨rfl, rfl⟩)
            | (go_at_call 25; refine (siplen_nil _).mono ?_; rintro e wy ⟨rfl, rfl⟩)
            | (go_at_call 23; refine (sipclone_nil _).mono ?_; rintro e wy ⟨rfl, rfl⟩))
          go_ret
          exact ⟨rfl, HKG.out⟩

end Go.Proofs.Ytfbpaakgifnmaaa
