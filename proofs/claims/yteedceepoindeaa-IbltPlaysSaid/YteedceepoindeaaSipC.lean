/-
  The walk of layer 1's Write over bytes that are there. Conditions: fewer than 2^62 bytes in all; the bytes lie in another block than the sum.
-/
import Derived.Test.YteedceepoindeaaSipB
namespace Go.Proofs.Yteedceepoindeaa
open Go.RowKit

def WrA (w : World) (B blk off n cap : Nat) (s : Sp) (zs : List Int) (v : Value) (wr : World) : Prop :=
  ∃ k off' : Nat, k ≤ n ∧ v = .slice (some ⟨blk, off', none⟩) (n - k) (cap - k) ∧ Hid (k < n → off' = off + k) ∧ Hid (SipAt wr B (s.write (zs.take k))) ∧ Hid (Kp (Jb B) w wr)
def WrB (w : World) (B blk off n cap : Nat) (s : Sp) (zs : List Int) (v : Value) (wr : World) : Prop :=
  ∃ k off' : Nat, k ≤ n ∧ v = .slice (some ⟨blk, off', none⟩) (n - k) (cap - k) ∧ Hid (k < n → off' = off + k) ∧ Hid (k = n ∨ (s.n + k) % 8 = 0) ∧ Hid (SipAt wr B (s.write (zs.take k))) ∧ Hid (Kp (Jb B) w wr)
def WrC (w : World) (B n q : Nat) (s : Sp) (zs : List Int) (v : Value) (wr : World) : Prop :=
  ∃ j : Nat, j ≤ n - q ∧ v = .int .i64 j ∧ Hid (SipAt wr B (s.write (zs.take (q + j)))) ∧ Hid (Kp (Jb B) w wr)

set_option maxRecDepth 100000 in
set_option maxHeartbeats 1000000 in
theorem write_some (B blk off n cap : Nat) (s : Sp) (zs : List Int) (w : World) (hs : SipAt w B s) (ho : s.Ok) (hsz : s.n + n < 4611686018427387904) (hl : zs.length = n) (hc : n ≤ cap) (hm : cap ≤ maxLen) (hz : IsBytes zs) (hb : ByAt w blk off zs) (hne : 0 < n → blk ≠ B) :
    Calls Try.prog 60 #[.pointer (some ⟨B, 0, none⟩), .slice (some ⟨blk, off, none⟩) n cap] w fun e w' => e = .returned (.tuple #[]) ∧ SipAt w' B (s.write zs) ∧ Kp (Jb B) w w' := by
  unfold maxLen at hm
  have HB := hid hb
  have HZ := hid hz
  have HS := hid hs
  have HO := hid ho
  have HL := hid hl
  clear hb hz hs ho hl
  go_enter Try.func60, Try.ntmps60
  go_wp2
  go_loopw [1] (WrA w B blk off n cap s zs) (fun v _ => lenOf v)
  case atStart => exact ⟨0, off, Nat.zero_le _, rfl, fun _ => rfl, HS.out, Kp.refl _ _⟩
  case round =>
    obtain ⟨k, off', hk, rfl, hoff, hst, hkp⟩ := hrel
    by_cases hlt : k < n ∧ ¬ (s.n + k) % 8 = 0
    · obtain ⟨hlt, h8⟩ := hlt
      have hoff' := hoff.out hlt
      subst hoff'
      clear hoff
      have hcell := hkp.out.cell (HB.out k (by rw [HL.out]; exact hlt)) (hne (by omega))
      obtain ⟨-, -, -, -, -, c5, hf⟩ := SipAt.facts hst.out
      rw [Sp.take_n s zs k n HL.out hk] at c5
      have hx := HZ.out k
      have g1 : (0 : Int) < ((n - k : Nat) : Int) := by omega
      have g2 : (((s.n + k : Nat) : Int) % 8 != 0) = true := by rw [bne_iff_ne]; omega
      by_cases hcap : cap - k = 1
      · have hn1 : n - k = 1 := by omega
        go_wp2_with fail
        refine (single_any B (s.write (zs.take k)) _ _ hst.out (by rw [Sp.take_n s zs k n HL.out hk]; omega) hx.1 hx.2).mono ?_
        rintro e w1 ⟨rfl, h2, k2⟩
        have hR : WrA w B blk off n cap s zs (.slice (some ⟨blk, off + k, none⟩) 0 0) w1 := ⟨k + 1, off + k, by omega, by rw [show n - (k + 1) = 0 from by omega, show cap - (k + 1) = 0 from by omega], fun h => by omega, by rw [Sp.write_snoc s zs k (by rw [HL.out]; exact hlt)]; exact h2, hkp.out.trans k2 (fun _ _ h => h)⟩
        have hM : lenOf (.slice (some ⟨blk, off + k, none⟩) 0 0) < lenOf (.slice (some ⟨blk, off + k, none⟩) (n - k) (cap - k)) := by simp [lenOf]; omega
        have HR := hid hR
        have HM := hid hM
        clear h2 k2 c5 hf hcell hR hM
        go_wp2
        first
          | exact ⟨HR.out, HM.out⟩
          | (go_roundw
             case rel => exact HR.out
             case measure => exact HM.out)
      · have g3 : 1 < cap - k := by omega
        go_wp2_with fail
        refine (single_any B (s.write (zs.take k)) _ _ hst.out (by rw [Sp.take_n s zs k n HL.out hk]; omega) hx.1 hx.2).mono ?_
        rintro e w1 ⟨rfl, h2, k2⟩
        have hR : WrA w B blk off n cap s zs (.slice (some ⟨blk, off + k + 1, none⟩) (n - k - 1) (cap - k - 1)) w1 := ⟨k + 1, off + k + 1, by omega, by rw [show n - (k + 1) = n - k - 1 from by omega, show cap - (k + 1) = cap - k - 1 from by omega], fun h => by omega, by rw [Sp.write_snoc s zs k (by rw [HL.out]; exact hlt)]; exact h2, hkp.out.trans k2 (fun _ _ h => h)⟩
        have hM : lenOf (.slice (some ⟨blk, off + k + 1, none⟩) (n - k - 1) (cap - k - 1)) < lenOf (.slice (some ⟨blk, off + k, none⟩) (n - k) (cap - k)) := by simp [lenOf]; omega
        have HR := hid hR
        have HM := hid hM
        clear h2 k2 c5 hf hcell hR hM
        go_wp2
        first
          | exact ⟨HR.out, HM.out⟩
          | (go_roundw
             case rel => exact HR.out
             case measure => exact HM.out)
    · have hst2 : Hid (k = n ∨ (s.n + k) % 8 = 0) := by
        by_cases e : k = n
        · exact .inl e
        · exact .inr (by omega)
      obtain ⟨-, -, -, -, -, c5, hf⟩ := SipAt.facts hst.out
      rw [Sp.take_n s zs k n HL.out hk] at c5
      have hw : n - k = 0 ∨ ((0 : Int) < ((n - k : Nat) : Int) ∧ ((((s.n : Int) + k) % 8 != 0) = false)) := by
        by_cases hkn : k = n
        · exact .inl (by omega)
        · exact .inr ⟨by omega, by rw [bne_eq_false_iff_eq]; omega⟩
      clear hlt
      rcases hw with g1 | ⟨g1, g2⟩
      all_goals
        go_wp2
        try simp only [g2]
        clear c5 hf
        try clear g2
        clear g1
        go_loopw [1] (WrB w B blk off n cap s zs) (fun v _ => lenOf v)
        case atStart => exact ⟨k, off', hk, rfl, hoff, hst2, hst, hkp⟩
        case round =>
          clear hst hkp hst2 hoff hk
          obtain ⟨q, off2, hq, rfl, hoff, hst2, hst, hkp⟩ := hrel
          by_cases h8 : 8 ≤ n - q
          · have hoff' := hoff.out (by omega)
            subst hoff'
            have g1 : (8 : Int) ≤ ((n - q : Nat) : Int) := by omega
            have hq8 : Hid ((s.n + q) % 8 = 0) := hst2.out.resolve_left (by omega)
            have HD := hid (show (zs.drop q).length = n - q by rw [List.length_drop, HL.out])
            have HY := hid (ByAt.drop HB.out HL.out hkp.out (hne (by omega)) q hq)
            have HF := hid (Sp.step_eight s zs q n HL.out HO.out h8 hq8.out)
            go_wp2_with fail
            refine (load_any blk (off + q) (n - q) (cap - q) (zs.drop q) _ HD.out h8 (by omega) (by unfold maxLen; omega) (HZ.out.drop q) HY.out).mono ?_
            rintro e w1 ⟨rfl, rfl⟩
            go_wp2_with fail
            refine (word_any B _ _ _ hst.out).mono ?_
            rintro e w2 ⟨rfl, h2, k2⟩
            obtain ⟨-, -, -, -, -, d5, hf⟩ := SipAt.facts h2
            rw [Sp.word_n, Sp.take_n s zs q n HL.out hq] at d5
            have hS3 : SipAt (w2.setCell ⟨B, 5, none⟩ (.int .i64 ((s.n : Int) + q + 8))) B (s.write (zs.take (q + 8))) := by
              rw [← HF.out]; exact h2.setN 8 _ (by rw [Sp.word_n, Sp.take_n s zs q n HL.out hq]; push_cast; rfl)
            have hK3 : Kp (Jb B) w (w2.setCell ⟨B, 5, none⟩ (.int .i64 ((s.n : Int) + q + 8))) := (hkp.out.trans k2 (fun _ _ h => h)).set 5 _
            by_cases hcap : cap - q = 8
            · have hn8 : n - q = 8 := by omega
              have HR := hid (show WrB w B blk off n cap s zs (.slice (some ⟨blk, off + q, none⟩) 0 0) (w2.setCell ⟨B, 5, none⟩ (.int .i64 ((s.n : Int) + q + 8))) from ⟨q + 8, off + q, by omega, by rw [show n - (q + 8) = 0 from by omega, show cap - (q + 8) = 0 from by omega], fun h => by omega, .inl (by omega), hS3, hK3⟩)
              have HM := hid (show lenOf (.slice (some ⟨blk, off + q, none⟩) 0 0) < lenOf (.slice (some ⟨blk, off + q, none⟩) (n - q) (cap - q)) from by simp [lenOf]; omega)
              clear h2 k2 hS3 hK3
              go_wp2
              first
                | exact ⟨HR.out, HM.out⟩
                | (go_roundw
                   case rel => exact HR.out
                   case measure => exact HM.out)
            · have g3 : 8 < cap - q := by omega
              have HR := hid (show WrB w B blk off n cap s zs (.slice (some ⟨blk, off + q + 8, none⟩) (n - q - 8) (cap - q - 8)) (w2.setCell ⟨B, 5, none⟩ (.int .i64 ((s.n : Int) + q + 8))) from ⟨q + 8, off + q + 8, by omega, by rw [show n - (q + 8) = n - q - 8 from by omega, show cap - (q + 8) = cap - q - 8 from by omega], fun h => by omega, .inr (by have := hq8.out; omega), hS3, hK3⟩)
              have HM := hid (show lenOf (.slice (some ⟨blk, off + q + 8, none⟩) (n - q - 8) (cap - q - 8)) < lenOf (.slice (some ⟨blk, off + q, none⟩) (n - q) (cap - q)) from by simp [lenOf]; omega)
              clear h2 k2 hS3 hK3
              go_wp2
              first
                | exact ⟨HR.out, HM.out⟩
                | (go_roundw
                   case rel => exact HR.out
                   case measure => exact HM.out)
          · go_wp2
            go_loopw [44] (WrC w B n q s zs) (fun i _ => n - q - (intOf i).toNat)
            case atStart => exact ⟨0, Nat.zero_le _, rfl, hst, hkp⟩
            case round =>
              clear hst hkp hst2
              obtain ⟨j, hj, rfl, hst, hkp⟩ := hrel
              by_cases hlt : j < n - q
              · have hoff' := hoff.out (by omega)
                subst hoff'
                have hcell := hkp.out.cell (HB.out (q + j) (by rw [HL.out]; omega)) (hne (by omega))
                rw [← Nat.add_assoc] at hcell
                have hx := HZ.out (q + j)
                have hlt2 : (j : Int) < ((n - q : Nat) : Int) := by omega
                go_wp2_with fail
                refine (single_any B (s.write (zs.take (q + j))) _ _ hst.out (by rw [Sp.take_n s zs (q + j) n HL.out (by omega)]; omega) hx.1 hx.2).mono ?_
                rintro e w1 ⟨rfl, h2, k2⟩
                have HR := hid (show WrC w B n q s zs (.int .i64 ((j : Int) + 1)) w1 from ⟨j + 1, by omega, by go_num, by unfold Hid; rw [show q + (j + 1) = (q + j) + 1 from rfl, Sp.write_snoc s zs (q + j) (by rw [HL.out]; omega)]; exact h2, hkp.out.trans k2 (fun _ _ h => h)⟩)
                clear h2 k2 hcell
                go_wp2
                go_roundw
                case rel => exact HR.out
                case measure => simp [intOf]; omega
              · obtain rfl : j = n - q := by omega
                go_wp2
                go_end0
                refine ⟨rfl, ?_, hkp.out⟩
                have := hst.out
                rw [show q + (n - q) = n from by omega, List.take_of_length_le (by rw [HL.out]; exact Nat.le_refl _)] at this
                exact this

/-- A slice of bytes as a value: nil, or its cells in a block that S doesn't hold of. -/
def BySl (S : Nat → Prop) (w : World) (v : Value) (zs : List Int) : Prop :=
  IsBytes zs ∧ (((∃ a cap, v = .slice a 0 cap) ∧ zs = []) ∨ ∃ blk off cap, v = .slice (some ⟨blk, off, none⟩) zs.length cap ∧ zs.length ≤ cap ∧ cap ≤ maxLen ∧ ByAt w blk off zs ∧ (0 < zs.length → ¬ S blk))

theorem BySl.kept {S S' : Nat → Prop} {w w' : World} {v : Value} {zs : List Int} (h : BySl S w v zs) (k : Kp S' w w') (hs : ∀ i, S' i → S i) : BySl S w' v zs := by
  obtain ⟨hz, h⟩ := h
  refine ⟨hz, ?_⟩
  rcases h with h | ⟨blk, off, cap, hv, hc, hm, hb, hn⟩
  · exact .inl h
  · exact .inr ⟨blk, off, cap, hv, hc, hm, fun i hi => k.cell (hb i hi) (fun h' => hn (by omega) (hs _ h')), hn⟩
theorem BySl.mono {S S' : Nat → Prop} {w : World} {v : Value} {zs : List Int} (h : BySl S w v zs) (hs : ∀ i, S' i → S i) : BySl S' w v zs := by
  obtain ⟨hz, h⟩ := h
  refine ⟨hz, ?_⟩
  rcases h with h | ⟨blk, off, cap, hv, hc, hm, hb, hn⟩
  · exact .inl h
  · exact .inr ⟨blk, off, cap, hv, hc, hm, hb, fun h1 h2 => hn h1 (hs _ h2)⟩

set_option maxRecDepth 100000 in
set_option maxHeartbeats 400000 in
theorem write_nil (B : Nat) (s : Sp) (a : Option Addr) (cap : Nat) (w : World) (hs : SipAt w B s) :
    Calls Try.prog 60 #[.pointer (some ⟨B, 0, none⟩), .slice a 0 cap] w fun e w' => e = .returned (.tuple #[]) ∧ SipAt w' B s ∧ Kp (Jb B) w w' := by
  have HS := hid hs
  clear hs
  go_enter Try.func60, Try.ntmps60
  go_wp2
  refine wp_loop_rounds 1 ?_
  rw [rounds_succ]
  go_wp2
  refine wp_loop_rounds 1 ?_
  rw [rounds_succ]
  go_wp2
  refine wp_loop_rounds 1 ?_
  rw [rounds_succ]
  go_wp2
  go_end0
  exact ⟨rfl, HS.out, Kp.refl _ _⟩

theorem write_any (B : Nat) (s : Sp) (v : Value) (zs : List Int) (w : World) (hs : SipAt w B s) (ho : s.Ok) (hsz : s.n + zs.length < 4611686018427387904) (h : BySl (Jb B) w v zs) :
    Calls Try.prog 60 #[.pointer (some ⟨B, 0, none⟩), v] w fun e w' => e = .returned (.tuple #[]) ∧ SipAt w' B (s.write zs) ∧ Kp (Jb B) w w' := by
  obtain ⟨hz, h⟩ := h
  rcases h with ⟨⟨a, cap, rfl⟩, rfl⟩ | ⟨blk, off, cap, rfl, hc, hm, hb, hn⟩
  · exact write_nil B s a cap w hs
  · exact write_some B blk off zs.length cap s zs w hs ho hsz rfl hc hm hz hb hn

end Go.Proofs.Yteedceepoindeaa
