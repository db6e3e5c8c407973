/-
  Layer 3: Top. Conditions: what these types hold; at most 2^20 runs.
-/
import Derived.Test.YtbbfibgijackhaaGreatDoorDtD
namespace Go.Proofs.YtbbfibgijackhaaGreatDoor
open Go.RowKit

/-- The nodes of a right clock rise. -/
theorem right_nodes {c : List RunQ} (h : rightC c = true) : ∀ (i d : Nat), i + d < c.length → (runAt c i).1 ≤ (runAt c (i + d)).1 := by
  intro i d
  induction d with
  | zero => intro _; exact Int.le_refl _
  | succ d ih =>
    intro hl
    have h1 := ih (by omega)
    have h2 := (rightC_of.1 h (i + (d + 1)) hl).2 (by omega)
    rw [show i + (d + 1) - 1 = i + d by omega] at h2
    unfold gapB at h2
    simp only [Bool.not_eq_true', Bool.or_eq_false_iff, decide_eq_false_iff_not] at h2
    have := h2.1
    omega
def topF (c : List RunQ) (n : Int) : Int := match (ofF c n).getLast? with
  | none => 0
  | some r => r.2.2
def topC (c : List RunQ) (n : Int) : Int := if rightC c then topF c n else 0
theorem topF_eq (c : List RunQ) (n : Int) (k : Nat) (hk : k < c.length) (h : (runAt c k).1 = n) : topF (c.take (k + 1)) n = (runAt c k).2.2 := by
  unfold topF
  rw [ofF_snoc c n k hk, if_pos h, List.getLast?_concat]
theorem topF_ne (c : List RunQ) (n : Int) (k : Nat) (hk : k < c.length) (h : ¬ (runAt c k).1 = n) : topF (c.take (k + 1)) n = topF (c.take k) n := by
  unfold topF
  rw [ofF_snoc c n k hk, if_neg h, List.append_nil]
theorem topF_past {c : List RunQ} {n : Int} (hr : rightC c = true) (k : Nat) (hk : k < c.length) (h : n < (runAt c k).1) : topF c n = topF (c.take k) n := by
  have key : ∀ d, k + d ≤ c.length → topF (c.take (k + d)) n = topF (c.take k) n := by
    intro d
    induction d with
    | zero => intro _; rfl
    | succ d ih =>
      intro hl
      rw [show k + (d + 1) = k + d + 1 by omega, topF_ne c n (k + d) (by omega) (fun e => by have := right_nodes hr k d (by omega); omega)]
      exact ih (by omega)
  have := key (c.length - k) (by omega)
  rw [show k + (c.length - k) = c.length by omega, List.take_length] at this
  exact this
def ToR (w1 : World) (c : List RunQ) (n : Int) (s i : Value) (wr : World) : Prop := ∃ k : Nat, k ≤ c.length ∧ s = .int .i64 (topF (c.take k) n) ∧ i = .int .i64 k ∧ Hid (Kp Nb w1 wr)
set_option maxRecDepth 100000 in
set_option maxHeartbeats 4000000 in
theorem top_any (v : Value) (c : List RunQ) (n : Int) (w : World) (hs : ClSl w v c) (hbig : c.length ≤ 1048576) : Calls Tryz.prog 11 #[v, .int .i64 n] w fun e w' => e = .returned (.int .i64 (topC c n)) ∧ Kp Nb w w' := by
  obtain ⟨y, d, rfl⟩ := hs.shape
  obtain ⟨L, hL⟩ : ∃ L, c.length = L := ⟨_, rfl⟩
  have HLE := hid hL
  rw [hL] at hs hbig ⊢
  have HS0 := hid hs
  have hb20 : L ≤ 1048576 := hbig
  obtain ⟨rb, hrb⟩ : ∃ b, rightC c = b := ⟨_, rfl⟩
  have HRB := hid hrb
  clear hL hs hrb
  go_enter Tryz.func11, Tryz.ntmps11
  go_wp2
  refine wp_scope_straight ?_
  go_wp2_with fail
  refine (dright_any _ c w HS0.out (by have := HLE.out; omega)).mono ?_
  rintro r w1 ⟨rfl, k1⟩
  rw [HRB.out]
  have K1 := hid k1
  have HS := hid (HS0.out.kept k1)
  clear k1
  cases rb with
  | false =>
    have HE : Hid (topC c n = 0) := hid (by unfold topC; rw [HRB.out]; rfl)
    go_wp2
    dsimp only [Exit.noGoto]
    go_ret
    exact ⟨by rw [HE.out]; rfl, K1.out⟩
  | true =>
    have HE : Hid (topC c n = topF c n) := hid (by unfold topC; rw [HRB.out]; rfl)
    go_wp2
    refine wp_label ?_
    go_wp2
    go_loopw [5, 13] (ToR w1 c n) (fun _ i _ => L - (intOf i).toNat)
    case atStart => exact ⟨0, Nat.zero_le _, by rw [List.take_zero]; rfl, rfl, hid (Kp.refl _ _)⟩
    case round =>
      obtain ⟨k, hk, rfl, rfl, HK⟩ := hrel
      rw [HLE.out] at hk
      by_cases hlt : k < L
      · obtain ⟨blk, off, cap, e1, hc, hm, hcell⟩ := cl_shape (HS.out.kept HK.out) (by intro h; have := HLE.out; rw [h, List.length_nil] at this; omega)
        rw [HLE.out] at e1 hc hcell
        injection e1 with e1 _ e2
        subst e1 e2
        have HR := hid (hcell k hlt)
        obtain ⟨⟨qn, qf, qt⟩, hq⟩ : ∃ q, runAt c k = q := ⟨_, rfl⟩
        have HOK := HS.out.1 k
        rw [hq] at HR HOK
        have HQ := hid hq
        obtain ⟨M, hM⟩ : ∃ M, wr.heap.size = M := ⟨_, rfl⟩
        obtain ⟨W2, hW2⟩ : ∃ W, W = (wr.alloc (.cells (runL (0, 0, 0)).toArray 61)).setCells M 0 (runL (qn, qf, qt)) := ⟨_, rfl⟩
        have hz := Blk.new wr 61 (runL (0, 0, 0))
        rw [hM] at hz
        have KW : Hid (Kp Nb wr W2) := hid (by rw [hW2]; exact Kp.setCells (fun h => absurd h (by omega)) _ 0 _ ((Kp.refl Nb wr).alloc _))
        have HMW : Hid (wr.heap.size = M) := hid hM
        have TH := hid (run_there (q := (qn, qf, qt)) hz)
        have HZ : Hid (Blk W2 M 61 (runL (qn, qf, qt))) := hid (by rw [hW2]; exact row_set hz rfl)
        have HK2 := hid (HK.out.trans KW.out (fun _ _ h => h))
        unfold maxLen at hm
        obtain ⟨fs, hfs⟩ := under_run
        clear hz hcell hq
        go_upto_region 7 with (first
          | (refine wpList_load_mid (by rfl) 61 (.tmp 15) (by rfl) blk (off + k * 3) (by rfl) (runL (qn, qf, qt)) _ HR.out hfs rfl (run_infoL (qn, qf, qt)) ?_)
          | (refine wpList_store_mid (by rfl) 61 (.tmp 7) (.tmp 16) (by rfl) M 0 (runL (qn, qf, qt)).toArray (by rfl) (by rfl) TH.out (run_infoA (qn, qf, qt)) (run_one (qn, qf, qt)) ?_))
        rw [show (wr.alloc (.cells #[.int .i64 0, .int .i64 0, .int .i64 0] 61)).setCells M 0 (runL (qn, qf, qt)) = W2 from hW2.symm]
        clear hW2 TH hM
        have c0 : W2.cell? ⟨M, 0, none⟩ = some (.int .i64 qn) := HZ.out.cell 0
        have c1 : W2.cell? ⟨M, 1, none⟩ = some (.int .i64 qf) := HZ.out.cell 1
        have c2 : W2.cell? ⟨M, 2, none⟩ = some (.int .i64 qt) := HZ.out.cell 2
        have he := fun h => topF_eq c n k (by rw [HLE.out]; exact hlt) (by rw [HQ.out]; exact h)
        have hne := fun h => topF_ne c n k (by rw [HLE.out]; exact hlt) (by rw [HQ.out]; exact h)
        have hpa := fun h => topF_past (n := n) HRB.out k (by rw [HLE.out]; exact hlt) (by rw [HQ.out]; exact h)
        rw [HQ.out] at he
        dsimp only at he hne hpa
        have HEQ := hid he
        have HNEQ := hid hne
        have HPA := hid hpa
        obtain ⟨S, hS⟩ : ∃ S, topF (c.take k) n = S := ⟨_, rfl⟩
        have HSS := hid hS
        rw [hS]
        clear he hne hpa hS KW
        by_cases h1 : qn < n
        · have HN := hid (HNEQ.out (by omega))
          go_wp2
          go_roundw
          case rel => exact ⟨k + 1, by rw [HLE.out]; omega, by rw [HN.out, HSS.out], by go_num, HK2⟩
          case measure => simp [intOf]; omega
        · by_cases h2 : n < qn
          · have HN := hid (HPA.out h2)
            go_wp2
            go_ret
            exact ⟨by rw [HE.out, HN.out, HSS.out]; rfl, K1.out.trans HK2.out (fun _ _ h => h)⟩
          · have HN := hid (HEQ.out (by omega))
            go_wp2
            go_roundw
            case rel => exact ⟨k + 1, by rw [HLE.out]; omega, by rw [HN.out], by go_num, HK2⟩
            case measure => simp [intOf]; omega
      · obtain rfl : k = L := by omega
        have ht : c.take k = c := List.take_of_length_le (by rw [HLE.out]; exact Nat.le_refl _)
        rw [ht]
        go_wp2
        dsimp only [Exit.noGoto]
        go_ret
        exact ⟨by rw [HE.out]; rfl, K1.out.trans HK.out (fun _ _ h => h)⟩

end Go.Proofs.YtbbfibgijackhaaGreatDoor
