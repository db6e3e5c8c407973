/-
  Walks of layer 1: Sum, New, Seed, Hash. Conditions: fewer than 2^62 bytes.
-/
import Derived.Test.YteedceepoindeaaSipC
import Derived.StillTailTactics
namespace Go.Proofs.Yteedceepoindeaa
open Go.RowKit

set_option maxRecDepth 100000 in
set_option maxHeartbeats 400000 in
theorem sum_any (B : Nat) (s : Sp) (w : World) (hs : SipAt w B s) (hn : s.n < 4611686018427387904) :
    Calls Try.prog 61 #[.pointer (some ⟨B, 0, none⟩)] w fun e w' => e = .returned (.int .u64 s.sum) ∧ Kp Nb w w' := by
  obtain ⟨c0, c1, c2, c3, c4, c5, hf⟩ := hs.facts
  have HS := hid hs
  have HE := hid (Blk.new w 114 s.cells)
  have HK := hid ((Kp.refl Nb w).alloc (.cells s.cells.toArray 114))
  have HB := hid (hs.kept HK.out (fun h => h))
  have hwn : IntKind.u64.wrap (s.n : Int) = s.n := IntWalk.u64_in _ (by omega)
  clear hs
  go_enter Try.func61, Try.ntmps61
  go_wp2
  obtain ⟨W1, hW⟩ : ∃ W1, W1 = w.alloc (.cells s.cells.toArray 114) := ⟨_, rfl⟩
  obtain ⟨E, hE⟩ : ∃ E, E = w.heap.size := ⟨_, rfl⟩
  rw [← hW] at HE HK HB
  rw [← hE] at HE
  unfold Sp.cells at hW
  rw [← hW, ← hE]
  clear hW
  clear c0 c1 c2 c3 c4 c5 hf
  obtain ⟨-, -, -, -, c4, c5, -⟩ := SipAt.facts HB.out
  have hE2 := hid hE
  clear hE
  go_still_tail 11, (by kernel_rfl)
  go_wp2_with fail
  refine (word_any E s _ _ (by exact Blk.drew HE.out)).mono ?_
  rintro e w2 ⟨rfl, h2, k2⟩
  change SipAt w2 E (s.word s.tail) at h2
  generalize hs2 : s.word s.tail = s2 at h2
  obtain ⟨-, -, d2, -, -, -, hf2⟩ := SipAt.facts h2
  have H2 := hid h2
  have K2 := hid k2
  have HS2 := hid hs2
  clear h2 k2 hs2 c4 c5
  go_wp2_with fail
  refine (rounds_any E (s2.xorC 255) 4 (by decide) _ (by exact H2.out.setC 255)).mono ?_
  rintro e w3 ⟨rfl, h3, k3⟩
  obtain ⟨e0, e1, e2, e3, -, -, hf3⟩ := SipAt.facts h3
  have K3 := hid k3
  clear h3 k3 d2 hf2
  go_wp2
  go_ret
  refine ⟨?_, ?_⟩
  · refine ret_u64 ?_
    unfold Sp.sum
    rw [HS2.out]
    rfl
  · have hi : ∀ i, i < w.heap.size → Jb E i → Nb i := fun i hi h => by have := hE2.out; unfold Jb at h; omega
    exact (((HK.out.drew.trans K2.out hi).new (Nat.le_of_eq hE2.out.symm) 2 _).trans K3.out hi)

set_option maxHeartbeats 400000 in
theorem new_any (a b : Int) (w : World) :
    Calls Try.prog 59 #[.agg #[.int .u64 a, .int .u64 b]] w fun e w' => ∃ B, w.heap.size ≤ B ∧ e = .returned (.pointer (some ⟨B, 0, none⟩)) ∧ SipAt w' B (Sp.init a b) ∧ Kp Nb w w' := by
  go_enter Try.func59, Try.ntmps59
  go_wp2
  go_ret
  exact ⟨w.heap.size + 1, by omega, rfl, by have := Blk.new (w.alloc (.cells #[.int .u64 a, .int .u64 b] 80)) 114 (Sp.init a b).cells; rw [World.size_alloc] at this; exact this, ((Kp.refl Nb w).alloc _).alloc _⟩

set_option maxHeartbeats 400000 in
theorem seed_any (n : Int) (w : World) :
    Calls Try.prog 39 #[.int .i64 n] w fun e w' => e = .returned (.agg #[.int .u64 (seedA n), .int .u64 (seedB n)]) ∧ Kp Nb w w' := by
  have hsg : IntKind.u64.signed = false := rfl
  go_enter Try.func39, Try.ntmps39
  go_wp2
  exact bodyPost_ret (v := .agg #[.int .u64 (seedA n), .int .u64 (seedB n)]) (by simp [results, Try.results39, go_sem]; exact ⟨rfl, rfl⟩) rfl ⟨rfl, (Kp.refl Nb w).alloc _⟩

/-- What Hash is handed: a list of lists of bytes. -/
def PsSl (w : World) (v : Value) (ps : List (List Int)) : Prop :=
  ((∃ a cap, v = .slice a 0 cap) ∧ ps = []) ∨ ∃ blk off cap, v = .slice (some ⟨blk, off, none⟩) ps.length cap ∧ ps.length ≤ cap ∧ cap ≤ maxLen ∧ ∀ i, i < ps.length → ∃ u, w.cell? ⟨blk, off + i, none⟩ = some u ∧ BySl Nb w u (ps[i]?.getD [])

theorem BySl.fresh {w w' : World} {v : Value} {zs : List Int} (h : BySl Nb w v zs) (B : Nat) (hB : w.heap.size ≤ B) (S : Nat → Prop) (k : Kp S w w') (hS : ∀ i, i < w.heap.size → ¬ S i) : BySl (Jb B) w' v zs := by
  obtain ⟨hz, h⟩ := h
  refine ⟨hz, ?_⟩
  rcases h with h | ⟨blk, off, cap, hv, hc, hm, hb, hn⟩
  · exact .inl h
  · refine .inr ⟨blk, off, cap, hv, hc, hm, fun i hi => k.cell (hb i hi) (hS _ (World.block_lt_of_cell? _ _ (hb i hi))), fun h0 h1 => ?_⟩
    have := World.block_lt_of_cell? _ _ (hb 0 h0)
    unfold Jb at h1
    simp only at this
    omega

def HashR (w : World) (B : Nat) (a b : Int) (ps : List (List Int)) (i : Value) (wr : World) : Prop :=
  ∃ k : Nat, k ≤ ps.length ∧ i = .int .i64 k ∧ Hid (SipAt wr B ((Sp.init a b).write (ps.take k).flatten)) ∧ Hid (Kp Nb w wr)

set_option maxRecDepth 100000 in
set_option maxHeartbeats 400000 in
theorem hash_some (a b : Int) (blk off cap : Nat) (ps : List (List Int)) (w : World) (hc : ps.length ≤ cap) (hm : cap ≤ maxLen) (hp : ∀ i, i < ps.length → ∃ u, w.cell? ⟨blk, off + i, none⟩ = some u ∧ BySl Nb w u (ps[i]?.getD [])) (hsz : ps.flatten.length < 4611686018427387904) :
    Calls Try.prog 38 #[.agg #[.int .u64 a, .int .u64 b], .slice (some ⟨blk, off, none⟩) ps.length cap] w fun e w' => e = .returned (.int .u64 (hash a b ps.flatten)) ∧ Kp Nb w w' := by
  have HP := hid hp
  have HZ := hid hsz
  unfold maxLen at hm
  clear hp hsz
  go_enter Try.func38, Try.ntmps38
  go_wp2_with (go_at_call 59; refine (new_any _ _ _).mono ?_; rintro e w1 ⟨B, hB, rfl, h1, k1⟩)
  have hB' : w.heap.size + 1 ≤ B := by simpa using hB
  have HK1 := hid (((Kp.refl Nb w).alloc (.cells #[.int .u64 a, .int .u64 b] 80)).trans k1 (fun _ _ h => h))
  have H1 := hid h1
  clear h1 k1 hB
  go_loopw [12] (HashR w B a b ps) (fun i _ => ps.length - (intOf i).toNat)
  case atStart => exact ⟨0, Nat.zero_le _, rfl, H1.out, HK1.out⟩
  case round =>
    clear H1 HK1
    obtain ⟨k, hk, rfl, hst, hkp⟩ := hrel
    by_cases hlt : k < ps.length
    · obtain ⟨u, hu, hbs⟩ := HP.out k hlt
      have hcell := hkp.out.cell hu (fun h => h)
      have HBS := hid (hbs.fresh B (by omega) Nb hkp.out (fun _ _ h => h))
      have hfl := flat_le ps (k + 1)
      rw [flat_snoc ps k hlt, List.length_append] at hfl
      have HF := hid hfl
      clear hfl hu hbs
      go_wp2_with fail
      refine (write_any B _ u (ps[k]?.getD []) _ hst.out (Sp.write_ok _ _ (Sp.init_ok a b)) (by rw [Sp.write_n]; have := HZ.out; have := HF.out; show 0 + _ + _ < _; omega) HBS.out).mono ?_
      rintro e w2 ⟨rfl, h2, k2⟩
      have HR := hid (show HashR w B a b ps (.int .i64 ((k : Int) + 1)) w2 from ⟨k + 1, by omega, by go_num, by unfold Hid; rw [flat_snoc ps k hlt, Sp.write_append]; exact h2, hkp.out.trans k2 (fun i hi h => by unfold Jb at h; omega)⟩)
      clear h2 k2 hcell
      go_wp2
      go_roundw
      case rel => exact HR.out
      case measure => simp [intOf]; omega
    · obtain rfl : k = ps.length := by omega
      go_wp2_with fail
      refine (sum_any B _ _ hst.out (by rw [Sp.write_n, List.take_length]; have := HZ.out; show 0 + _ < _; omega)).mono ?_
      rintro e w2 ⟨rfl, k2⟩
      have HK2 := hid (hkp.out.trans k2 (fun _ _ h => h))
      clear k2
      go_wp2
      go_ret
      exact ⟨rfl, HK2.out⟩

set_option maxRecDepth 100000 in
set_option maxHeartbeats 400000 in
theorem hash_nil (a b : Int) (x : Option Addr) (cap : Nat) (w : World) :
    Calls Try.prog 38 #[.agg #[.int .u64 a, .int .u64 b], .slice x 0 cap] w fun e w' => e = .returned (.int .u64 (hash a b [])) ∧ Kp Nb w w' := by
  go_enter Try.func38, Try.ntmps38
  go_wp2_with (go_at_call 59; refine (new_any _ _ _).mono ?_; rintro e w1 ⟨B, hB, rfl, h1, k1⟩)
  have HK1 := hid (((Kp.refl Nb w).alloc (.cells #[.int .u64 a, .int .u64 b] 80)).trans k1 (fun _ _ h => h))
  have H1 := hid h1
  clear h1 k1 hB
  refine wp_loop_rounds 1 ?_
  rw [rounds_succ]
  go_wp2_with fail
  refine (sum_any B _ _ H1.out (by show 0 < _; decide)).mono ?_
  rintro e w2 ⟨rfl, k2⟩
  have HK2 := hid (HK1.out.trans k2 (fun _ _ h => h))
  clear k2
  go_wp2
  go_ret
  exact ⟨rfl, HK2.out⟩

theorem hash_any (a b : Int) (v : Value) (ps : List (List Int)) (w : World) (hp : PsSl w v ps) (hsz : ps.flatten.length < 4611686018427387904) :
    Calls Try.prog 38 #[.agg #[.int .u64 a, .int .u64 b], v] w fun e w' => e = .returned (.int .u64 (hash a b ps.flatten)) ∧ Kp Nb w w' := by
  rcases hp with ⟨⟨x, cap, rfl⟩, rfl⟩ | ⟨blk, off, cap, rfl, hc, hm, hp⟩
  · exact hash_nil a b x cap w
  · exact hash_some a b blk off cap ps w hc hm hp hsz

end Go.Proofs.Yteedceepoindeaa
