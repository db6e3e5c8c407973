/-
  Layer 19: frames: walks of Right, the reference's Right and Same, Cost, Turn, sum. Conditions: a frame's kind is an int, its body bytes; fewer than 2^47 bytes.
-/
import Derived.Test.YtmgmghlflldepaaPenM
import Derived.Test.YtmgmghlflldepaaPenNew
import Derived.Test.YtmgmghlflldepaaRowApp
namespace Go.Proofs.Ytmgmghlflldepaa
open Go.RowKit

abbrev frV (k : Int) (v : Value) : Value := .agg #[.int .i64 k, v]
abbrev frL (k : Int) (v : Value) : List Value := [.int .i64 k, v]
def rightF (k : Int) (L : Nat) : Bool := decide (1 ≤ k ∧ k ≤ 14 ∧ L ≤ 2048)

set_option maxHeartbeats 1000000 in
theorem fright_any (k : Int) (y : Option Addr) (L d : Nat) (w : World) :
    Calls Try.prog 12 #[frV k (.slice y L d)] w fun e w' => e = .returned (.bool (rightF k L)) ∧ Kp Nb w w' := by
  have H := Blk.new w 24 (frL k (.slice y L d))
  have KW := hid ((Kp.refl Nb w).alloc (.cells (frL k (.slice y L d)).toArray 24))
  have c0 := H.cell 0
  have c1 := H.cell 1
  simp only [List.getElem?_cons_zero, List.getElem?_cons_succ] at c0 c1
  have HE : Hid (rightF k L = decide (1 ≤ k ∧ k ≤ 14 ∧ L ≤ 2048)) := hid rfl
  clear H
  rcases (show k < 1 ∨ (1 ≤ k ∧ 14 < k) ∨ (1 ≤ k ∧ k ≤ 14 ∧ ¬ L ≤ 2048) ∨ (1 ≤ k ∧ k ≤ 14 ∧ L ≤ 2048) by omega) with h | ⟨h, h'⟩ | ⟨h, h', h2⟩ | ⟨h, h', h2⟩
  · have RF : Hid (rightF k L = false) := hid (by rw [HE.out]; exact decide_eq_false (by omega))
    have d1 : decide (k ≥ 1) = false := decide_eq_false (by omega)
    clear h
    go_enter Try.func12, Try.ntmps12
    go_wp2
    go_ret
    exact ⟨by rw [RF.out]; rfl, KW.out⟩
  · have RF : Hid (rightF k L = false) := hid (by rw [HE.out]; exact decide_eq_false (by omega))
    have d1 : decide (k ≥ 1) = true := decide_eq_true (by omega)
    have d2 : decide (k ≤ 14) = false := decide_eq_false (by omega)
    clear h h'
    go_enter Try.func12, Try.ntmps12
    go_wp2
    go_ret
    exact ⟨by rw [RF.out]; rfl, KW.out⟩
  · have RF : Hid (rightF k L = false) := hid (by rw [HE.out]; exact decide_eq_false (by omega))
    have d1 : decide (k ≥ 1) = true := decide_eq_true (by omega)
    have d2 : decide (k ≤ 14) = true := decide_eq_true (by omega)
    have d3 : decide ((L : Int) ≤ 2048) = false := decide_eq_false (by omega)
    clear h h' h2
    go_enter Try.func12, Try.ntmps12
    go_wp2
    go_ret
    exact ⟨by rw [RF.out]; rfl, KW.out⟩
  · have RF : Hid (rightF k L = true) := hid (by rw [HE.out]; exact decide_eq_true (by omega))
    have d1 : decide (k ≥ 1) = true := decide_eq_true (by omega)
    have d2 : decide (k ≤ 14) = true := decide_eq_true (by omega)
    have d3 : decide ((L : Int) ≤ 2048) = true := decide_eq_true (by omega)
    clear h h' h2
    go_enter Try.func12, Try.ntmps12
    go_wp2
    go_ret
    exact ⟨by rw [RF.out]; rfl, KW.out⟩

set_option maxHeartbeats 1000000 in
theorem rfright_any (k : Int) (y : Option Addr) (L d : Nat) (w : World) :
    Calls Try.prog 8 #[frV k (.slice y L d)] w fun e w' => e = .returned (.bool (rightF k L)) ∧ Kp Nb w w' := by
  have H := Blk.new w 24 (frL k (.slice y L d))
  have KW := hid ((Kp.refl Nb w).alloc (.cells (frL k (.slice y L d)).toArray 24))
  have c0 := H.cell 0
  have c1 := H.cell 1
  simp only [List.getElem?_cons_zero, List.getElem?_cons_succ] at c0 c1
  have HE : Hid (rightF k L = decide (1 ≤ k ∧ k ≤ 14 ∧ L ≤ 2048)) := hid rfl
  clear H
  rcases (show k < 1 ∨ (1 ≤ k ∧ 14 < k) ∨ (1 ≤ k ∧ k ≤ 14 ∧ ¬ L ≤ 2048) ∨ (1 ≤ k ∧ k ≤ 14 ∧ L ≤ 2048) by omega) with h | ⟨h, h'⟩ | ⟨h, h', h2⟩ | ⟨h, h', h2⟩
  · have RF : Hid (rightF k L = false) := hid (by rw [HE.out]; exact decide_eq_false (by omega))
    have d1 : decide (k > 0) = false := decide_eq_false (by omega)
    clear h
    go_enter Try.func8, Try.ntmps8
    go_wp2
    go_ret
    exact ⟨by rw [RF.out]; rfl, KW.out⟩
  · have RF : Hid (rightF k L = false) := hid (by rw [HE.out]; exact decide_eq_false (by omega))
    have d1 : decide (k > 0) = true := decide_eq_true (by omega)
    have d2 : decide (k < 15) = false := decide_eq_false (by omega)
    clear h h'
    go_enter Try.func8, Try.ntmps8
    go_wp2
    go_ret
    exact ⟨by rw [RF.out]; rfl, KW.out⟩
  · have RF : Hid (rightF k L = false) := hid (by rw [HE.out]; exact decide_eq_false (by omega))
    have d1 : decide (k > 0) = true := decide_eq_true (by omega)
    have d2 : decide (k < 15) = true := decide_eq_true (by omega)
    have d3 : decide ((L : Int) < 2049) = false := decide_eq_false (by omega)
    clear h h' h2
    go_enter Try.func8, Try.ntmps8
    go_wp2
    go_ret
    exact ⟨by rw [RF.out]; rfl, KW.out⟩
  · have RF : Hid (rightF k L = true) := hid (by rw [HE.out]; exact decide_eq_true (by omega))
    have d1 : decide (k > 0) = true := decide_eq_true (by omega)
    have d2 : decide (k < 15) = true := decide_eq_true (by omega)
    have d3 : decide ((L : Int) < 2049) = true := decide_eq_true (by omega)
    clear h h' h2
    go_enter Try.func8, Try.ntmps8
    go_wp2
    go_ret
    exact ⟨by rw [RF.out]; rfl, KW.out⟩

def sameF (k1 k2 : Int) (xs ys : List Int) : Bool := decide (k1 = k2 ∧ xs = ys)
set_option maxHeartbeats 1000000 in
theorem fsame_any {S1 S2 : Nat → Prop} (k1 k2 : Int) (u v : Value) (xs ys : List Int) (w : World) (hu : BySl S1 w u xs) (hv : BySl S2 w v ys) :
    Calls Try.prog 14 #[frV k1 u, frV k2 v] w fun e w' => e = .returned (.bool (sameF k1 k2 xs ys)) ∧ Kp Nb w w' := by
  obtain ⟨W, hW⟩ : ∃ W, W = (w.alloc (.cells (frL k1 u).toArray 24)).alloc (.cells (frL k2 v).toArray 24) := ⟨_, rfl⟩
  obtain ⟨N, hN⟩ : ∃ N, N = w.heap.size := ⟨_, rfl⟩
  have H3 : Blk W N 24 (frL k1 u) := by rw [hW, hN]; exact (Blk.new w _ _).alloc _
  have H4 : Blk W (N + 1) 24 (frL k2 v) := by
    have h := Blk.new (w.alloc (.cells (frL k1 u).toArray 24)) 24 (frL k2 v)
    simp only [World.size_alloc] at h
    rw [hW, hN]
    exact h
  have KW : Kp Nb w W := by rw [hW]; exact ((Kp.refl Nb w).alloc _).alloc _
  have c0 := H3.cell 0
  have c1 := H3.cell 1
  have c2 := H4.cell 0
  have c3 := H4.cell 1
  simp only [List.getElem?_cons_zero, List.getElem?_cons_succ] at c0 c1 c2 c3
  have e1 := conv_any (hu.kept KW (fun _ h => h.elim))
  have e2 := conv_any (hv.kept KW (fun _ h => h.elim))
  have hb := st_beq xs ys hu.1 hv.1
  have KW' := hid KW
  obtain ⟨d, hd⟩ : ∃ d, decide (xs = ys) = d := ⟨_, rfl⟩
  rw [hd] at hb
  have HD := hid hd
  obtain ⟨sx, hsx⟩ : ∃ s, st xs = s := ⟨_, rfl⟩
  obtain ⟨sy, hsy⟩ : ∃ s, st ys = s := ⟨_, rfl⟩
  rw [hsx, hsy] at hb
  rw [hsx] at e1
  rw [hsy] at e2
  clear H3 H4 KW hu hv hd hsx hsy
  by_cases hk : k1 = k2
  · have SF : Hid (sameF k1 k2 xs ys = d) := hid (by
      unfold sameF
      rw [← HD.out]
      simp [hk])
    have hkb : (k1 == k2) = true := by simpa using hk
    clear hk
    go_enter Try.func14, Try.ntmps14
    go_upto_region 1 with fail
    rw [show (w.alloc (.cells #[.int .i64 k1, u] 24)).alloc (.cells #[.int .i64 k2, v] 24) = W from hW.symm, ← hN]
    clear hW hN
    go_wp2
    go_ret
    exact ⟨by rw [SF.out]; rfl, KW'.out⟩
  · have SF : Hid (sameF k1 k2 xs ys = false) := hid (decide_eq_false (fun h => hk h.1))
    have hkb : (k1 == k2) = false := by simpa using hk
    clear hk
    go_enter Try.func14, Try.ntmps14
    go_upto_region 1 with fail
    rw [show (w.alloc (.cells #[.int .i64 k1, u] 24)).alloc (.cells #[.int .i64 k2, v] 24) = W from hW.symm, ← hN]
    clear hW hN
    go_wp2
    go_ret
    exact ⟨by rw [SF.out]; rfl, KW'.out⟩

def costF (n : Int) : Int := if 0 ≤ n ∧ n ≤ 2048 then 10 + (sizeN n : Int) + n else 0
set_option maxHeartbeats 400000 in
theorem fcost_any (n : Int) (w : World) : Calls Try.prog 15 #[.int .i64 n] w fun e w' => e = .returned (.int .i64 (costF n)) ∧ w = w' := by
  rcases (show n < 0 ∨ (0 ≤ n ∧ 2048 < n) ∨ (0 ≤ n ∧ n ≤ 2048) by omega) with h | ⟨h, h'⟩ | ⟨h, h'⟩
  · have HC : Hid (costF n = 0) := hid (by unfold costF; rw [if_neg (by omega)])
    have d1 : decide (n < 0) = true := decide_eq_true h
    clear h
    go_enter Try.func15, Try.ntmps15
    go_wp2
    go_ret
    exact ⟨by rw [HC.out]; rfl, rfl⟩
  · have HC : Hid (costF n = 0) := hid (by unfold costF; rw [if_neg (by omega)])
    have d1 : decide (n < 0) = false := decide_eq_false (by omega)
    have d2 : decide (n > 2048) = true := decide_eq_true h'
    clear h h'
    go_enter Try.func15, Try.ntmps15
    go_wp2
    go_ret
    exact ⟨by rw [HC.out]; rfl, rfl⟩
  · have HC : Hid (costF n = 10 + (sizeN n : Int) + n) := hid (by unfold costF; rw [if_pos ⟨h, h'⟩])
    have CS : Hid (∀ w, Calls Try.prog 29 #[.int .u64 n] w fun e w' => e = .returned (.int .i64 (sizeN n)) ∧ w = w') := hid (fun w => psize_any n w h (by omega))
    have hs : sizeN n ≤ 9 := by unfold sizeN; have := kOf_le n (by omega); split <;> omega
    obtain ⟨s, hs'⟩ : ∃ s, sizeN n = s := ⟨_, rfl⟩
    rw [hs'] at HC CS hs
    have d1 : decide (n < 0) = false := decide_eq_false (by omega)
    have d2 : decide (n > 2048) = false := decide_eq_false (by omega)
    clear hs'
    go_enter Try.func15, Try.ntmps15
    go_wp2_with fail
    have e1 : IntKind.u64.wrap n = n := by rw [IntKind.wrap_u64]; omega
    go_wp2_with fail
    refine (CS.out _).mono ?_
    rintro e w1 ⟨rfl, rfl⟩
    go_wp2
    go_ret
    refine ⟨?_, rfl⟩
    rw [HC.out]
    refine congrArg Ending.returned ?_
    simp only [Array.getD_eq_getD_getElem?, List.getElem?_toArray, List.getElem?_cons_zero, List.getElem?_cons_succ, Option.getD_some]
    refine congrArg (Value.int IntKind.i64) ?_
    omega

end Go.Proofs.Ytmgmghlflldepaa
