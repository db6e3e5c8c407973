/-
  Layer 9: Beside. Conditions: marks of 16 bytes; at most 100,000 a list.
-/
import Derived.Test.YtijlmfmpfjjlpaaMaF
namespace Go.Proofs.Ytijlmfmpfjjlpaa
open Go.RowKit Go.Shelf

def okAB (b : Bool) (xs : List (List Int)) : List (List Int) := if b then xs else []
set_option maxRecDepth 100000 in
set_option maxHeartbeats 1000000 in
theorem mbeside_any (va vb : Value) (xs ys : List (List Int)) (w : World) (ha : MkSl w va xs) (hb : MkSl w vb ys) (la : xs.length ≤ 100000) (lb : ys.length ≤ 100000) :
    Calls Try.prog 42 #[va, vb] w fun e w' => ∃ B va' vb', e = .returned (.func (.func 73) #[] #[.pointer (some ⟨B, 0, none⟩), .pointer (some ⟨B + 1, 0, none⟩)]) ∧
      Boxed w' B 22 va' ∧ Boxed w' (B + 1) 22 vb' ∧ MkSl w' va' (okAB (rightB xs && rightB ys) xs) ∧ MkSl w' vb' (okAB (rightB xs && rightB ys) ys) ∧
      (∀ g, va'.ownBlock = some g → w.heap.size ≤ g ∧ g < w'.heap.size) ∧ (∀ g, vb'.ownBlock = some g → w.heap.size ≤ g ∧ g < w'.heap.size) ∧ w.heap.size ≤ B ∧ Kp Nb w w' := by
  have CA := hid (mright_any va xs w ha la)
  have CB : Hid (∀ wx, Kp Nb w wx → Calls Try.prog 11 #[vb] wx fun e w' => e = .returned (.bool (rightB ys)) ∧ Kp Nb wx w') := hid (fun wx k => mright_any vb ys wx (hb.kept k) lb)
  have HA := hid ha
  have HB := hid hb
  obtain ⟨pa, da, rfl⟩ := ha.shape
  obtain ⟨pb, db, rfl⟩ := hb.shape
  have LA := hid la
  have LB := hid lb
  obtain ⟨ra, hra⟩ : ∃ b, rightB xs = b := ⟨_, rfl⟩
  obtain ⟨rb, hrb⟩ : ∃ b, rightB ys = b := ⟨_, rfl⟩
  rw [hra] at CA ⊢
  rw [hrb] at CB ⊢
  clear hra hrb ha hb la lb
  have NIL : ∀ (W W2 : World), Kp Nb w W → W2 = (W.alloc (.cells #[.slice none 0 0] 22)).alloc (.cells #[.slice none 0 0] 22) →
      Boxed W2 W.heap.size 22 (.slice none 0 0) ∧ Boxed W2 (W.heap.size + 1) 22 (.slice none 0 0) ∧ MkSl W2 (.slice none 0 0) [] ∧ Kp Nb w W2 := fun W W2 k e => by
    have b0 := Boxed.new W 22 (.slice none 0 0)
    have b1 := Boxed.new (W.alloc (.cells #[.slice none 0 0] 22)) 22 (.slice none 0 0)
    simp only [World.size_alloc] at b1
    rw [e]
    exact ⟨b0.alloc _, b1, ⟨fun i => by unfold markAt; exact zero_ok, .inl ⟨⟨_, _, rfl⟩, rfl⟩⟩, (k.alloc _).alloc _⟩
  have HNIL := hid NIL
  clear NIL
  cases ra with
  | false =>
    go_enter Try.func42, Try.ntmps42
    go_wp2_with fail
    refine CA.out.mono ?_
    rintro r w1 ⟨rfl, k1⟩
    go_wp2_with fail
    refine (beside_any none none 0 0 0 0 w1).mono ?_
    rintro r w2 ⟨rfl, e2⟩
    obtain ⟨h1, h2, h3, h4⟩ := HNIL.out w1 w2 k1 e2
    have H := hid (show Boxed w2 w1.heap.size _ _ ∧ Boxed w2 (w1.heap.size + 1) _ _ ∧ MkSl w2 _ [] ∧ Kp Nb w w2 ∧ w.heap.size ≤ w1.heap.size from ⟨h1, h2, h3, h4, k1.size⟩)
    clear h1 h2 h3 h4 k1 e2
    go_wp2
    go_ret
    exact ⟨_, _, _, rfl, H.out.1, H.out.2.1, H.out.2.2.1, H.out.2.2.1, fun g hg => by simp [Value.ownBlock] at hg, fun g hg => by simp [Value.ownBlock] at hg, H.out.2.2.2.2, H.out.2.2.2.1⟩
  | true =>
    cases rb with
    | false =>
      go_enter Try.func42, Try.ntmps42
      go_wp2_with fail
      refine CA.out.mono ?_
      rintro r w1 ⟨rfl, k1⟩
      go_wp2_with fail
      refine (CB.out w1 k1).mono ?_
      rintro r w1b ⟨rfl, k1b⟩
      have k1 := k1.trans k1b (fun _ _ h => h)
      clear k1b
      go_wp2_with fail
      refine (beside_any none none 0 0 0 0 w1b).mono ?_
      rintro r w2 ⟨rfl, e2⟩
      obtain ⟨h1, h2, h3, h4⟩ := HNIL.out w1b w2 k1 e2
      have H := hid (show Boxed w2 w1b.heap.size _ _ ∧ Boxed w2 (w1b.heap.size + 1) _ _ ∧ MkSl w2 _ [] ∧ Kp Nb w w2 ∧ w.heap.size ≤ w1b.heap.size from ⟨h1, h2, h3, h4, k1.size⟩)
      clear h1 h2 h3 h4 k1 e2
      go_wp2
      go_ret
      exact ⟨_, _, _, rfl, H.out.1, H.out.2.1, H.out.2.2.1, H.out.2.2.1, fun g hg => by simp [Value.ownBlock] at hg, fun g hg => by simp [Value.ownBlock] at hg, H.out.2.2.2.2, H.out.2.2.2.1⟩
    | true =>
      go_enter Try.func42, Try.ntmps42
      go_wp2_with fail
      refine CA.out.mono ?_
      rintro r w1 ⟨rfl, k1⟩
      go_wp2_with fail
      refine (CB.out w1 k1).mono ?_
      rintro r w1b ⟨rfl, k1b⟩
      have K1 := hid (k1.trans k1b (fun _ _ h => h))
      clear k1b k1
      go_wp2_with fail
      refine (mclone_any _ xs w1b (HA.out.kept K1.out) LA.out).mono ?_
      rintro r w2 ⟨v2, rfl, h2, o2, k2⟩
      have K2 := hid (K1.out.trans k2 (fun _ _ h => h))
      obtain ⟨p2, d2, e2⟩ := h2.shape
      subst e2
      have O2 : Hid (∀ g, (Value.slice p2 xs.length d2).ownBlock = some g → w.heap.size ≤ g ∧ g < w2.heap.size) := hid (fun g hg => ⟨Nat.le_trans K1.out.size (o2 g hg).1, (o2 g hg).2⟩)
      have H2 := hid h2
      clear h2 o2 k2
      go_wp2_with fail
      refine (mclone_any _ ys w2 (HB.out.kept K2.out) LB.out).mono ?_
      rintro r w3 ⟨v3, rfl, h3, o3, k3⟩
      have K3 := hid (K2.out.trans k3 (fun _ _ h => h))
      obtain ⟨p3, d3, e3⟩ := h3.shape
      subst e3
      have O3 : Hid (∀ g, (Value.slice p3 ys.length d3).ownBlock = some g → w.heap.size ≤ g ∧ g < w3.heap.size) := hid (fun g hg => ⟨Nat.le_trans K2.out.size (o3 g hg).1, (o3 g hg).2⟩)
      have O2 : Hid (∀ g, (Value.slice p2 xs.length d2).ownBlock = some g → w.heap.size ≤ g ∧ g < w3.heap.size) := hid (fun g hg => ⟨(O2.out g hg).1, Nat.lt_of_lt_of_le (O2.out g hg).2 k3.size⟩)
      have H2 := hid (H2.out.kept k3)
      have H3 := hid h3
      clear h3 o3 k3
      go_wp2_with fail
      refine (beside_any p2 p3 xs.length d2 ys.length d3 w3).mono ?_
      rintro r w4 ⟨rfl, e4⟩
      have b0 := Boxed.new w3 22 (.slice p2 xs.length d2)
      have b1 := Boxed.new (w3.alloc (.cells #[.slice p2 xs.length d2] 22)) 22 (.slice p3 ys.length d3)
      simp only [World.size_alloc] at b1
      have k4 : Kp Nb w3 w4 := by rw [e4]; exact ((Kp.refl Nb w3).alloc _).alloc _
      have B0 : Hid (Boxed w4 w3.heap.size 22 (.slice p2 xs.length d2)) := hid (by rw [e4]; exact b0.alloc _)
      have B1 : Hid (Boxed w4 (w3.heap.size + 1) 22 (.slice p3 ys.length d3)) := hid (by rw [e4]; exact b1)
      have K4 := hid k4
      clear b0 b1 k4 e4
      go_wp2
      go_ret
      exact ⟨_, _, _, rfl, B0.out, B1.out, H2.out.kept K4.out, H3.out.kept K4.out, fun g hg => ⟨(O2.out g hg).1, Nat.lt_of_lt_of_le (O2.out g hg).2 K4.out.size⟩, fun g hg => ⟨(O3.out g hg).1, Nat.lt_of_lt_of_le (O3.out g hg).2 K4.out.size⟩, K3.out.size, K3.out.trans K4.out (fun _ _ h => h)⟩

end Go.Proofs.Ytijlmfmpfjjlpaa
