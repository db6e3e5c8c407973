/-
  Layer 29: the walk of the reference's Pairs. Condition: a number of nodes that fits.
-/
import Derived.Test.YtofbehkooklimaaPeC
import Derived.Deep.AppendLies
namespace Go.Proofs.Ytofbehkooklimaa
open Go.RowKit

theorem peerV_at (N i t : Nat) (h2 : 2 ≤ N) (h8 : N ≤ 8) (hi : i < N) (ht : t < N - 1) : peerV N i t = if N ≤ i + (t + 1) then ((i + (t + 1) - N : Nat) : Int) else ((i + (t + 1) : Nat) : Int) := by
  have hb : peerB N i t = true := by unfold peerB; rw [isB_t (by omega), decide_eq_true (by omega)]; rfl
  have e1 : (t : Int) % ((N : Int) - 1) = t := Int.emod_eq_of_lt (by omega) (by omega)
  unfold peerV
  rw [if_pos hb]
  unfold peerZ
  rw [e1]
  split
  · have e2 : ((i : Int) + 1 + t) = ((i + (t + 1) - N : Nat) : Int) + N := by omega
    rw [e2, Int.add_emod_right]
    exact Int.emod_eq_of_lt (by omega) (by omega)
  · have e2 : ((i : Int) + 1 + t) = ((i + (t + 1) : Nat) : Int) := by omega
    rw [e2]
    exact Int.emod_eq_of_lt (by omega) (by omega)

/-- Two rows of ints, each in a block of its own. -/
structure TwoR (w : World) (va vb : Value) (xs ys : List Int) (wr : World) : Prop where
  a : wr.ownsRow w.heap.size 3 1 va xs.length (xs.map (Value.int .i64))
  b : wr.ownsRow w.heap.size 3 1 vb ys.length (ys.map (Value.int .i64))
  dis : ∀ k, va.ownBlock = some k → vb.ownBlock ≠ some k
  kp : Kp Nb w wr
theorem TwoR.start (w : World) : TwoR w (.slice none 0 0) (.slice none 0 0) [] [] w :=
  ⟨World.ownsRow_nil _ _ _ _, World.ownsRow_nil _ _ _ _, fun k h => by simp [Value.ownBlock] at h, Kp.refl _ _⟩
theorem TwoR.putA {w wr w1 : World} {va vb : Value} {xs ys : List Int} {g1 cap : Nat} {z : Int} {x : Obj} (h : TwoR w va vb xs ys wr)
    (hown : w1.ownsRow w.heap.size 3 1 (.slice (some ⟨g1, 0, none⟩) (xs.length + 1) cap) (xs.length + 1) (xs.map (Value.int .i64) ++ [.int .i64 z])) (hg : (wr.alloc x).grownBy w1 va.ownBlock)
    (hat : va.ownBlock = some g1 ∨ g1 = wr.heap.size + 1) : TwoR w (.slice (some ⟨g1, 0, none⟩) (xs.length + 1) cap) vb (xs ++ [z]) ys w1 := by
  have hb0 : vb.ownBlock ≠ some g1 := by
    rcases hat with e | e
    · exact h.dis _ e
    · intro hv
      have := (h.b.lt _ hv).2
      omega
  refine ⟨by rw [List.length_append, List.map_append]; exact hown, (h.b.alloc x).kept hg ?_, fun k hk => ?_, Kp.grown (h.kp.alloc x) hg (fun k hk hlt => ?_)⟩
  · cases hv : vb.ownBlock with
    | none => exact .inl rfl
    | some k => exact .inr (fun e => h.dis k e.symm hv)
  · simp [Value.ownBlock] at hk
    subst hk
    exact hb0
  · have := (h.a.lt _ hk).1
    omega
theorem TwoR.putB {w wr w1 : World} {va vb : Value} {xs ys : List Int} {g1 cap : Nat} {z : Int} {x : Obj} (h : TwoR w va vb xs ys wr)
    (hown : w1.ownsRow w.heap.size 3 1 (.slice (some ⟨g1, 0, none⟩) (ys.length + 1) cap) (ys.length + 1) (ys.map (Value.int .i64) ++ [.int .i64 z])) (hg : (wr.alloc x).grownBy w1 vb.ownBlock)
    (hat : vb.ownBlock = some g1 ∨ g1 = wr.heap.size + 1) : TwoR w va (.slice (some ⟨g1, 0, none⟩) (ys.length + 1) cap) xs (ys ++ [z]) w1 := by
  have ha0 : va.ownBlock ≠ some g1 := by
    rcases hat with e | e
    · exact fun hv => h.dis _ hv e
    · intro hv
      have := (h.a.lt _ hv).2
      omega
  refine ⟨(h.a.alloc x).kept hg ?_, by rw [List.length_append, List.map_append]; exact hown, fun k hk he => ?_, Kp.grown (h.kp.alloc x) hg (fun k hk hlt => ?_)⟩
  · cases hv : va.ownBlock with
    | none => exact .inl rfl
    | some k => exact .inr (fun e => h.dis k hv e.symm)
  · simp [Value.ownBlock] at he
    subst he
    exact ha0 hk
  · have := (h.b.lt _ hk).1
    omega

def fstL (N k : Nat) : List Int := (pairsTo N k).map (·.1)
def sndL (N k : Nat) : List Int := (pairsTo N k).map (·.2)
theorem fstL_length (N k : Nat) : (fstL N k).length = k := by unfold fstL; rw [List.length_map, pairsTo_length]
theorem sndL_length (N k : Nat) : (sndL N k).length = k := by unfold sndL; rw [List.length_map, pairsTo_length]
theorem fstL_succ (N t i : Nat) (h : i < N) : fstL N (t * N + (i + 1)) = fstL N (t * N + i) ++ [(i : Int)] := by
  unfold fstL
  rw [← Nat.add_assoc, pairsTo_succ, List.map_append, pairAt_at N t i h]
  rfl
theorem sndL_succ (N t i : Nat) (h : i < N) : sndL N (t * N + (i + 1)) = sndL N (t * N + i) ++ [peerV N i t] := by
  unfold sndL
  rw [← Nat.add_assoc, pairsTo_succ, List.map_append, pairAt_at N t i h]
  rfl
def PaO (w : World) (N : Nat) (va vb j : Value) (wr : World) : Prop := ∃ t : Nat, t ≤ N - 1 ∧ j = .int .i64 (t + 1) ∧ Hid (TwoR w va vb (fstL N (t * N)) (sndL N (t * N)) wr)
def PaI (w : World) (N t : Nat) (va vb j : Value) (wr : World) : Prop := ∃ i : Nat, i ≤ N ∧ j = .int .i64 i ∧ Hid (TwoR w va vb (fstL N (t * N + i)) (sndL N (t * N + i)) wr)

set_option maxRecDepth 100000 in
set_option maxHeartbeats 2000000 in
theorem rpairs_walk (N : Nat) (w : World) (h2 : 2 ≤ N) (h8 : N ≤ 8) : Calls Try.prog 41 #[.int .i64 N] w fun e w' => (∃ va vb, e = .returned (.tuple #[va, vb]) ∧ TwoR w va vb (fstL N ((N - 1) * N)) (sndL N ((N - 1) * N)) w') := by
  obtain ⟨i0, hi, hz0, hz1, hz2⟩ := info_parts iinfo
  have HS := hid (TwoR.start w)
  go_enter Try.func41, Try.ntmps41
  go_wp2
  go_loopw [4, 5, 6] (PaO w N) (fun _ _ j _ => N - (intOf j).toNat)
  case atStart => exact ⟨0, Nat.zero_le _, rfl, by rw [Nat.zero_mul]; exact HS⟩
  case round =>
    clear HS
    obtain ⟨t, ht, rfl, HT⟩ := hrel
    by_cases hlt : t < N - 1
    · have HLT := hid hlt
      have hd : decide ((t : Int) + 1 < (N : Int)) = true := decide_eq_true (by omega)
      go_wp2
      go_loopw [4, 5, 7] (PaI w N t) (fun _ _ j _ => N - (intOf j).toNat)
      case atStart => exact ⟨0, Nat.zero_le _, rfl, HT⟩
      case round =>
        clear HT
        obtain ⟨i, hi', rfl, HI⟩ := hrel
        by_cases hlti : i < N
        · have HLI := hid hlti
          have HPV := hid (peerV_at N i t h2 h8 hlti hlt)
          have hdi : decide ((i : Int) < (N : Int)) = true := decide_eq_true (by omega)
          obtain ⟨s, hs⟩ : ∃ s : Nat, s = i + (t + 1) := ⟨_, rfl⟩
          rw [← hs] at HPV
          have hwr : IntKind.i64.wrap ((i : Int) + ((t : Int) + 1)) = (s : Int) := (IntWalk.i64_in _ (by omega)).trans (by omega)
          have hbnd : t * N + i < 64 := by
            have := Nat.mul_le_mul (show t ≤ 6 by omega) h8
            omega
          have hs16 : s ≤ 16 := by omega
          have h0 := HI.out
          have hl1 := fstL_length N (t * N + i)
          have hl2 := sndL_length N (t * N + i)
          obtain ⟨xs, hxs⟩ : ∃ xs, xs = fstL N (t * N + i) := ⟨_, rfl⟩
          obtain ⟨ys, hys⟩ : ∃ ys, ys = sndL N (t * N + i) := ⟨_, rfl⟩
          rw [← hxs] at h0 hl1
          rw [← hys] at h0 hl2
          have H0 := hid h0
          have HX := hid hxs
          have HY := hid hys
          have HW := hid hwr
          have HSS := hid hs
          have HL1 := hid hl1
          have HL2 := hid hl2
          clear hs h0 hxs hys HI hlt ht hi' hlti hl1 hl2
          by_cases hge : N ≤ s
          · have hdg : decide ((s : Int) ≥ (N : Int)) = true := decide_eq_true (by omega)
            have hs2 : ((s : Int) - (N : Int)) = ((s - N : Nat) : Int) := by omega
            go_wp2_with (first | (at_builtin; refine wpList_append_lies _ (by rfl) _ _ _ (by rfl) w.heap.size 3 i0 (.int .i64 0) 1 8 Try.underlying23 hi hz0 hz1 hz2 rfl (by decide) _ _ _ (by rfl) (H0.out.a.alloc _) ⟨wr.heap.size, 0, none⟩ 1 1 [.int .i64 (i : Int)] (by rfl) (by rfl) (World.news_of_block (cs := #[.int .i64 (i : Int)]) (t := 3) (fr := (0, 0)) (heap_alloc_new wr _)) (by simp [Value.oneCell']) (by omega) (by have := HL1.out; unfold maxLen; omega) (by have := HL1.out; omega) (by have := H0.out.kp.size; simp; omega) (wr.heap.size + 1) (by simp) ?_; intro g1 cap1 w1 hown1 hgrow1 hat1 hlt1; have H1 := hid (H0.out.putA hown1 hgrow1 hat1); clear hown1 hgrow1 hat1 hlt1) | (at_builtin; refine wpList_append_lies _ (by rfl) _ _ _ (by rfl) w.heap.size 3 i0 (.int .i64 0) 1 8 Try.underlying23 hi hz0 hz1 hz2 rfl (by decide) _ _ _ (by rfl) (H1.out.b.alloc _) ⟨w1.heap.size, 0, none⟩ 1 1 [.int .i64 ((s - N : Nat) : Int)] (by rfl) (by rfl) (World.news_of_block (cs := #[.int .i64 ((s - N : Nat) : Int)]) (t := 3) (fr := (0, 0)) (heap_alloc_new w1 _)) (by simp [Value.oneCell']) (by omega) (by have := HL2.out; unfold maxLen; omega) (by have := HL2.out; omega) (by have := H1.out.kp.size; simp; omega) (w1.heap.size + 1) (by simp) ?_; intro g2 cap2 w2 hown2 hgrow2 hat2 hlt2; have H2 := hid (H1.out.putB hown2 hgrow2 hat2); clear hown2 hgrow2 hat2 hlt2))
            all_goals
              go_roundw
              case rel => exact ⟨i + 1, by have := HLI.out; omega, by go_num, by rw [fstL_succ N t i HLI.out, sndL_succ N t i HLI.out, HPV.out, if_pos hge, ← HX.out, ← HY.out]; exact H2⟩
              case measure => have := HLI.out; simp [intOf]; omega
          · have hdg : decide ((s : Int) ≥ (N : Int)) = false := decide_eq_false (by omega)
            go_wp2_with (first | (at_builtin; refine wpList_append_lies _ (by rfl) _ _ _ (by rfl) w.heap.size 3 i0 (.int .i64 0) 1 8 Try.underlying23 hi hz0 hz1 hz2 rfl (by decide) _ _ _ (by rfl) (H0.out.a.alloc _) ⟨wr.heap.size, 0, none⟩ 1 1 [.int .i64 (i : Int)] (by rfl) (by rfl) (World.news_of_block (cs := #[.int .i64 (i : Int)]) (t := 3) (fr := (0, 0)) (heap_alloc_new wr _)) (by simp [Value.oneCell']) (by omega) (by have := HL1.out; unfold maxLen; omega) (by have := HL1.out; omega) (by have := H0.out.kp.size; simp; omega) (wr.heap.size + 1) (by simp) ?_; intro g1 cap1 w1 hown1 hgrow1 hat1 hlt1; have H1 := hid (H0.out.putA hown1 hgrow1 hat1); clear hown1 hgrow1 hat1 hlt1) | (at_builtin; refine wpList_append_lies _ (by rfl) _ _ _ (by rfl) w.heap.size 3 i0 (.int .i64 0) 1 8 Try.underlying23 hi hz0 hz1 hz2 rfl (by decide) _ _ _ (by rfl) (H1.out.b.alloc _) ⟨w1.heap.size, 0, none⟩ 1 1 [.int .i64 (s : Int)] (by rfl) (by rfl) (World.news_of_block (cs := #[.int .i64 (s : Int)]) (t := 3) (fr := (0, 0)) (heap_alloc_new w1 _)) (by simp [Value.oneCell']) (by omega) (by have := HL2.out; unfold maxLen; omega) (by have := HL2.out; omega) (by have := H1.out.kp.size; simp; omega) (w1.heap.size + 1) (by simp) ?_; intro g2 cap2 w2 hown2 hgrow2 hat2 hlt2; have H2 := hid (H1.out.putB hown2 hgrow2 hat2); clear hown2 hgrow2 hat2 hlt2))
            all_goals
              go_roundw
              case rel => exact ⟨i + 1, by have := HLI.out; omega, by go_num, by rw [fstL_succ N t i HLI.out, sndL_succ N t i HLI.out, HPV.out, if_neg hge, ← HX.out, ← HY.out]; exact H2⟩
              case measure => have := HLI.out; simp [intOf]; omega
        · obtain rfl : i = N := by omega
          have HE := HI
          rw [← Nat.succ_mul] at HE
          clear HI
          go_wp2
          all_goals
            go_roundw
            case rel => exact ⟨t + 1, by have := HLT.out; omega, by go_num, HE⟩
            case measure => have := HLT.out; simp [intOf]; omega
    · obtain rfl : t = N - 1 := by omega
      have HE := HT
      clear HT
      go_wp2
      go_ret2
      exact ⟨_, _, rfl, HE.out⟩

end Go.Proofs.Ytofbehkooklimaa
