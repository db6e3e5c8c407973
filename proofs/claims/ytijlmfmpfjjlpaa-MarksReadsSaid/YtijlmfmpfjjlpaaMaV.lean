/-
  Of earlier texts what is used here: Mark, U64, SipPlain, SipA, RefA, RefP .. No condition.
-/
import Derived.Test.YtijlmfmpfjjlpaaKp
import Derived.Test.YtijlmfmpfjjlpaaRow
import Derived.Test.YtijlmfmpfjjlpaaRowCut
import Derived.Test.YtijlmfmpfjjlpaaGhostR
import Derived.Test.YtijlmfmpfjjlpaaRowApp
import Derived.Test.YtijlmfmpfjjlpaaColl
import Derived.Test.YtijlmfmpfjjlpaaVars
import Derived.Test.YtijlmfmpfjjlpaaMkit
import Derived.Test.YtijlmfmpfjjlpaaMkf
import Derived.Test.YtijlmfmpfjjlpaaMkp
import Derived.Test.YtijlmfmpfjjlpaaMke
import Derived.Test.YtijlmfmpfjjlpaaProg
import Derived.BigQuiet
import Derived.ChangeAlike
import Derived.ChangeKeysEq
import Derived.Deep.DeepCutAuto
import Derived.Deep.Matrix
import Derived.Deep.QuietTactic
import Derived.Deep.RegionHeld3
import Derived.Deep.Strs
import Derived.IntWalk
import Derived.Laws.BitsAllLaws
import Derived.Laws.IdiomStrings
import Derived.Lib.SlBytesConst
import Derived.OpenShut
import Derived.ProofKit
import Derived.RegionTactic
import Derived.SizedLaws
import Derived.StillTailTactics
import Derived.WalkKit
import Derived.WalkLawsBesides
import Derived.WalkSpells
namespace Go.Proofs.Ytijlmfmpfjjlpaa
section
open Go.ChangeShapes Go.WideShapes Go.ChangeAt Go.RowKit
theorem own : ownKnob Try.prog.godebug = none := by kernel_rfl
theorem laidOut : laidOutB Try.prog = true := by kernel_rfl
theorem cells_byte : Try.prog.cellsOf 5 = 1 := by kernel_rfl
theorem add_none (b off i : Nat) : Addr.add ⟨b, off, none⟩ i = ⟨b, off + i, none⟩ := by
  unfold Addr.add
  split <;> simp_all
end
section
open Go.ChangeShapes Go.WideShapes Go.ChangeAt Go.RowKit
section
variable {P : Program} {H : Type} {enc : TypeId × Value → H} {W : World} {fuel : Nat} {t e : TypeId} {cs : List Value} {x : DataW H × List MemPlace}
theorem chunk_one {α : Type} {l : List α} {i : Nat} {y : α} (h : (l.drop i).take 1 = [y]) : l[i]? = some y := by
  have h1 : ((l.drop i).take 1)[0]? = some y := by rw [h]; rfl
  rw [List.getElem?_take_of_lt (by decide), List.getElem?_drop, Nat.add_zero] at h1
  exact h1
theorem open_array {k : IntKind} {n : Nat} (ht : P.underlying t = some (.array n e)) (he : P.underlying e = some (.int k)) (hc : P.cellsOf e = 1) (hn : P.cellsOf t = n)
    (h : DataW.trod enc P W 0 (fun _ => true) true fuel t cs = some x) : ∃ zs : List Int, cs = zs.map (Value.int k) ∧ zs.length = n ∧ ∀ z ∈ zs, (Lit.int k z).wf = true := by
  obtain ⟨xs, m, _, _, hl, hx, hel⟩ := DataW.trod_array ht h
  rw [hn] at hl
  have each : ∀ i, i < n → ∃ z : Int, cs[i]? = some (.int k z) ∧ (Lit.int k z).wf = true := by
    intro i hi
    have h1 := hel i hi
    rw [hc, Nat.mul_one, List.getElem?_eq_getElem (by omega)] at h1
    obtain ⟨z, hz, _, hw⟩ := DataW.trod_int he h1
    exact ⟨z, chunk_one hz, hw⟩
  obtain ⟨q, hq⟩ := Deep.choose_lt each
  refine ⟨(List.range n).map q, ?_, by simp, ?_⟩
  · apply List.ext_getElem?
    intro i
    rcases Nat.lt_or_ge i n with hi | hi
    · rw [(hq i hi).1]; simp [hi]
    · rw [List.getElem?_eq_none (by omega), List.getElem?_eq_none (by simpa using hi)]
  · intro z hz
    obtain ⟨i, hi, rfl⟩ := List.mem_map.1 hz
    exact (hq i (List.mem_range.1 hi)).2
theorem open_rows {α : Type} (f : α → List Value) (z : α) (Q : α → Prop) (c : Nat) (hce : P.cellsOf e = c) (hc : 0 < c) (ho : ∀ fuel cs x, DataW.trod enc P W 0 (fun _ => true) true fuel e cs = some x → ∃ q, Q q ∧ cs = f q)
    (ht : P.underlying t = some (.slice e)) {v : Value} (hf : DataW.trod enc P W 0 (fun _ => true) true fuel t [v] = some x) : ∃ qs : List α, (∀ q ∈ qs, Q q) ∧ RowsSl f z c W v qs := by
  rcases Deep.open_slice ht hf with ⟨hcs, _⟩ | ⟨a, len, cap, m, n, D, Pl, hcs, _, hl, hm, hmm, _, hel⟩
  · simp at hcs
    subst hcs
    exact ⟨[], by simp, .inl ⟨⟨_, _, rfl⟩, rfl⟩⟩
  · simp at hcs
    subst hcs
    have hmc : m = cap := by simpa using hmm
    subst hmc
    by_cases hn : len = 0
    · subst hn
      exact ⟨[], by simp, .inl ⟨⟨_, _, rfl⟩, rfl⟩⟩
    · have each : ∀ i, i < m → ∃ q : α, Q q ∧ (f q).length = c ∧ ∀ j, j < c → W.cell? (a.add (i * c + j)) = (f q)[j]? := by
        intro i hi
        obtain ⟨cs', h1, h2⟩ := hel i hi
        rw [hce] at h1
        obtain ⟨_, hlen, hcell⟩ := World.cells?_some h1
        obtain ⟨q, hQ, rfl⟩ := ho _ _ _ h2
        refine ⟨q, hQ, hlen, fun j hj => ?_⟩
        have := hcell j hj
        rw [Deep.add_add] at this
        exact this
      haveI : Inhabited α := ⟨z⟩
      obtain ⟨q, hq⟩ := Deep.choose_lt each
      obtain ⟨blk, off, spot⟩ := a
      have hspot : spot = none := by
        have h0 := hq 0 (by omega)
        have h1 := h0.2.2 0 hc
        rw [List.getElem?_eq_getElem (by rw [h0.2.1]; exact hc)] at h1
        have := World.cell?_spot h1
        simpa [Addr.add] using this
      subst hspot
      have hget : ∀ i, i < len → ((List.range len).map q)[i]?.getD z = q i := fun i hi => by simp [hi]
      refine ⟨(List.range len).map q, ?_, .inr ⟨blk, off, m, by simp, by simpa using hl, hm, fun i hi => ?_⟩⟩
      · intro y hy
        obtain ⟨i, hi, rfl⟩ := List.mem_map.1 hy
        exact (hq i (by have := List.mem_range.1 hi; omega)).1
      · have hi' : i < len := by simpa using hi
        rw [hget i hi']
        intro j v hv
        have hq' := hq i (by omega)
        have hj : j < c := by have := (List.getElem?_eq_some_iff.1 hv).1; rw [hq'.2.1] at this; exact this
        have := hq'.2.2 j hj
        rw [add_none, hv] at this
        rw [Nat.add_assoc]
        exact this
end
end
section
open Go.ChangeShapes Go.WideShapes Go.ChangeAt Go.RowKit
theorem cells_marks : Try.prog.cellsOf 24 = 16 := by kernel_rfl
theorem wf_int {z : Int} (h : (Lit.int .i64 z).wf = true) : -9223372036854775808 ≤ z ∧ z < 9223372036854775808 := by
  simp [Lit.wf] at h
  have hmin : IntKind.i64.min = -9223372036854775808 := by decide
  rw [hmin] at h
  have := h.2
  exact ⟨h.1, by omega⟩
set_option maxRecDepth 10000 in
theorem open_markv {H : Type} {enc : TypeId × Value → H} {W : World} {base : Nat} {v : Value} {d : DataW H} {p : List MemPlace} (hv : Value.okWide Try.prog W .any base 24 v)
    (h : DataW.Trod enc Try.prog W 0 (fun _ => true) true 24 v d p) : ∃ m : List Int, MarkOk m ∧ v = markV m := by
  simp only [Value.okWide, under_mark] at hv
  obtain ⟨cs, rfl, _, _⟩ := hv
  obtain ⟨fuel, hf⟩ := h
  obtain ⟨zs, hz, hl, hw⟩ := open_array under_mark under_u8 cells_byte cells_marks hf
  obtain ⟨lc⟩ := cs
  simp only [Value.cells] at hz
  refine ⟨zs, ⟨hl, fun i => ?_⟩, ?_⟩
  · have hr := range_u8 hw i
    omega
  · have hz' : lc = markL zs := hz
    rw [hz']
theorem open_intv {H : Type} {enc : TypeId × Value → H} {W : World} {n : Int} {d : DataW H} {p : List MemPlace}
    (h : DataW.Trod enc Try.prog W 0 (fun _ => true) true 3 (.int .i64 n) d p) : -9223372036854775808 ≤ n ∧ n < 9223372036854775808 := by
  obtain ⟨fuel, hf⟩ := h
  obtain ⟨a, ea, _, wa⟩ := DataW.trod_int Try.underlying3 hf
  have e : n = a := by simpa [Value.cells] using ea
  rw [e]
  exact wf_int wa
theorem open_markcs {H : Type} {enc : TypeId × Value → H} {W : World} {fuel : Nat} {cs : List Value} {x : DataW H × List MemPlace} (h : DataW.trod enc Try.prog W 0 (fun _ => true) true fuel 24 cs = some x) : ∃ m : List Int, MarkOk m ∧ cs = markL m := by
  obtain ⟨zs, hz, hl, hw⟩ := open_array under_mark under_u8 cells_byte cells_marks h
  refine ⟨zs, ⟨hl, fun i => ?_⟩, hz⟩
  have hr := range_u8 hw i
  omega
theorem mksl_rows {W : World} {v : Value} {ms : List (List Int)} (ho : ∀ q ∈ ms, MarkOk q) (h : RowsSl markL (List.replicate 16 0) 16 W v ms) : MkSl W v ms := by
  refine ⟨fun i => ?_, h⟩
  unfold markAt
  cases hi : ms[i]? with
  | none => exact zero_ok
  | some m => exact ho m (List.mem_of_getElem? hi)
set_option maxRecDepth 100000 in
theorem open_marksv {H : Type} {enc : TypeId × Value → H} {W : World} {base : Nat} {v : Value} {d : DataW H} {p : List MemPlace} (hv : Value.okWide Try.prog W .any base 22 v)
    (h : DataW.Trod enc Try.prog W 0 (fun _ => true) true 22 v d p) : ∃ ms, MkSl W v ms := by
  obtain ⟨fu, hf⟩ := h
  obtain ⟨y0, len0, cap0, rfl⟩ := okWide_slice Try.underlying22 hv
  obtain ⟨ms, mo, mS⟩ := open_rows markL (List.replicate 16 0) MarkOk 16 cells_marks (by decide) (fun _ _ _ h => open_markcs h) Try.underlying22 hf
  exact ⟨ms, mksl_rows mo mS⟩
end

end Go.Proofs.Ytijlmfmpfjjlpaa
