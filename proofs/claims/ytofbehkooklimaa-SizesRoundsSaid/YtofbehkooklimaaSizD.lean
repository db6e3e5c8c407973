/-
  Layer 14: the walk of the reference's Parts: the cut points. Condition: a size that may be.
-/
import Derived.Test.YtofbehkooklimaaSizC
namespace Go.Proofs.Ytofbehkooklimaa
open Go.RowKit

def cutsL (s : Int) (k : Nat) : List Int := (List.range (k + 1)).map fun (i : Nat) => min (48 * (i : Int)) s
theorem cutsL_length (s : Int) (k : Nat) : (cutsL s k).length = k + 1 := by simp [cutsL]
theorem cutsL_succ (s : Int) (k : Nat) : cutsL s (k + 1) = cutsL s k ++ [min (48 * ((k + 1 : Nat) : Int)) s] := by unfold cutsL; rw [List.range_succ, List.map_append]; rfl
theorem cutsL_get (s : Int) (k i : Nat) (h : i ≤ k) : (cutsL s k)[i]?.getD 0 = min (48 * (i : Int)) s := by
  unfold cutsL
  rw [List.getElem?_map, List.getElem?_range (by omega)]
  rfl
theorem IntRow.last {w : World} {base e n : Nat} {v : Value} {zs : List Int} (h : w.ownsRow base e 1 v (n + 1) (zs.map (Value.int .i64))) : ∃ g c, v = .slice (some ⟨g, 0, none⟩) (n + 1) c ∧ w.cell? ⟨g, n, none⟩ = some (.int .i64 (zs[n]?.getD 0)) := by
  have hr := IntRow.of h
  have hl : zs.length = n + 1 := by have := h.1; simpa using this
  rcases hr with ⟨rfl, _⟩ | ⟨g, cap, rfl, _, _, hcell⟩
  · simp at hl
  · exact ⟨g, cap, by rw [hl], hcell n (by omega)⟩
def lenV : Value → Nat | .slice _ n _ => n | _ => 0
def CutR (w : World) (s : Int) (v : Value) (wr : World) : Prop :=
  ∃ k : Nat, Hid (k ≤ 32 ∧ (k = 0 ∨ 48 * ((k : Int) - 1) < s)) ∧ Hid (wr.ownsRow w.heap.size 3 1 v (k + 1) ((cutsL s k).map (Value.int .i64))) ∧ Hid (Kp Nb w wr)

theorem cut_next {w wr w1 : World} {s E : Int} {k g c g1 cap : Nat} {x : Obj} (hk : k ≤ 32 ∧ (k = 0 ∨ 48 * ((k : Int) - 1) < s)) (hlt : 48 * (k : Int) < s) (hE : E = min (48 * ((k + 1 : Nat) : Int)) s ∧ s ≤ 1536)
    (ho : wr.ownsRow w.heap.size 3 1 (.slice (some ⟨g, 0, none⟩) (k + 1) c) (k + 1) ((cutsL s k).map (Value.int .i64))) (hw : Kp Nb w wr)
    (hown1 : w1.ownsRow w.heap.size 3 1 (.slice (some ⟨g1, 0, none⟩) (k + 1 + 1) cap) (k + 1 + 1) ((cutsL s k).map (Value.int .i64) ++ [.int .i64 E])) (hgrow : (wr.alloc x).grownBy w1 (Value.slice (some ⟨g, 0, none⟩) (k + 1) c).ownBlock) :
    CutR w s (.slice (some ⟨g1, 0, none⟩) (k + 1 + 1) cap) w1 := by
  refine ⟨k + 1, ⟨by omega, .inr (by omega)⟩, ?_, ?_⟩
  · rw [cutsL_succ, List.map_append, ← hE.1]
    exact hown1
  · refine Kp.grown (hw.alloc x) hgrow (fun b hb hlt => ?_)
    have := (row_cells ho hb).1
    omega

set_option maxRecDepth 100000 in
set_option maxHeartbeats 1000000 in
theorem rparts_walk (s : Int) (w : World) (h3 : 3 ≤ s) (h4 : s ≤ 1536) : Calls Try.prog 21 #[.int .i64 s] w fun e w' => (∃ v, e = .returned v ∧ IntRow w' v (cutsL s ((s + 47) / 48).toNat)) ∧ Kp Nb w w' := by
  obtain ⟨i0, hi, hz0, hz1, hz2⟩ := info_parts info_int
  go_enter Try.func21, Try.ntmps21
  go_wp2
  have HR0 := hid (show CutR w s (.slice (some ⟨w.heap.size, 0, none⟩) 1 1) (w.alloc (.cells #[.int .i64 0] 3)) from ⟨0, ⟨by omega, .inl rfl⟩, by
    have e1 : cutsL s 0 = [0] := by unfold cutsL; simp; omega
    rw [e1]
    exact ⟨rfl, .inr ⟨w.heap.size, 1, #[.int .i64 0], rfl, Nat.le_refl _, heap_alloc_new w _, Nat.le_refl _, by decide, rfl, rfl⟩⟩, (Kp.refl Nb w).alloc _⟩)
  go_loopw [3] (CutR w s) (fun v _ => 40 - lenV v)
  case atStart => exact HR0.out
  case round =>
    obtain ⟨k, HK, HO, HW⟩ := hrel
    clear HR0
    have hown := HO.out
    obtain ⟨g, c, rfl, hcell⟩ := IntRow.last hown
    rw [cutsL_get s k k (Nat.le_refl _)] at hcell
    have hk := HK.out.1
    have HK1 := HK.out.2
    by_cases hlt : 48 * (k : Int) < s
    · have e1 : min (48 * (k : Int)) s = 48 * (k : Int) := Int.min_eq_left (by omega)
      rw [e1] at hcell
      clear e1
      by_cases hgt : s < 48 * (k : Int) + 48
      · clear HK1
        go_wp2_with (at_builtin; refine wpList_append_lies _ (by rfl) _ _ _ (by rfl) w.heap.size 3 i0 (.int .i64 0) 1 8 Try.underlying23 hi hz0 hz1 hz2 rfl (by decide) (.slice (some ⟨g, 0, none⟩) (k + 1) c) (k + 1) _ (by rfl) (hown.alloc _) ⟨wr.heap.size, 0, none⟩ 1 1 [.int .i64 (s)] (by rfl) (by rfl) (World.news_of_block (cs := #[.int .i64 (s)]) (t := 3) (fr := (0, 0)) (heap_alloc_new wr _)) (by simp [Value.oneCell']) (by omega) (by unfold maxLen; omega) (by omega) (by have := HW.out.size; simp; omega) (wr.heap.size + 1) (by simp) ?_; intro g1 cap w1 hown1 hgrow hat hlt')
        have HN := hid (cut_next (E := s) HK.out hlt (by omega) HO.out HW.out hown1 hgrow)
        clear hown1 hgrow hat hlt' hown hcell
        go_roundw
        case rel => exact HN.out
        case measure => simp [lenV]; omega
      · clear HK1
        go_wp2_with (at_builtin; refine wpList_append_lies _ (by rfl) _ _ _ (by rfl) w.heap.size 3 i0 (.int .i64 0) 1 8 Try.underlying23 hi hz0 hz1 hz2 rfl (by decide) (.slice (some ⟨g, 0, none⟩) (k + 1) c) (k + 1) _ (by rfl) (hown.alloc _) ⟨wr.heap.size, 0, none⟩ 1 1 [.int .i64 (48 * (k : Int) + 48)] (by rfl) (by rfl) (World.news_of_block (cs := #[.int .i64 (48 * (k : Int) + 48)]) (t := 3) (fr := (0, 0)) (heap_alloc_new wr _)) (by simp [Value.oneCell']) (by omega) (by unfold maxLen; omega) (by omega) (by have := HW.out.size; simp; omega) (wr.heap.size + 1) (by simp) ?_; intro g1 cap w1 hown1 hgrow hat hlt')
        have HN := hid (cut_next (E := 48 * (k : Int) + 48) HK.out hlt (by omega) HO.out HW.out hown1 hgrow)
        clear hown1 hgrow hat hlt' hown hcell
        go_roundw
        case rel => exact HN.out
        case measure => simp [lenV]; omega
    · have e1 : min (48 * (k : Int)) s = s := Int.min_eq_right (by omega)
      rw [e1] at hcell
      clear e1
      have e2 : ((s + 47) / 48).toNat = k := by omega
      have HE2 := hid e2
      have HI := hid (IntRow.of HO.out)
      clear hown e2 HK1 hlt
      go_wp2
      go_ret
      exact ⟨⟨_, rfl, by rw [HE2.out]; exact HI.out⟩, HW.out⟩

end Go.Proofs.Ytofbehkooklimaa
