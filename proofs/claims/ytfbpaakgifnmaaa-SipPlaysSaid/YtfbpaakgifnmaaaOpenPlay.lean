/-
  An argument opened: a list of two ints and bytes each (SipPlays' calls). No condition.
-/
import Derived.Test.YtfbpaakgifnmaaaOpenPair
import Derived.Deep.Strs
namespace Go.Proofs.Ytfbpaakgifnmaaa
open Go.ChangeShapes Go.WideShapes Go.ChangeAt Go.RowKit

def playAt (os : List (Int × Int × List Int)) (i : Nat) : Int × Int × List Int := os[i]?.getD (0, 0, [])
/-- A list of calls: kind, which, bytes. -/
def PlaySl (w : World) (v : Value) (os : List (Int × Int × List Int)) : Prop :=
  ((∃ a cap, v = .slice a 0 cap) ∧ os = []) ∨ ∃ blk off cap, v = .slice (some ⟨blk, off, none⟩) os.length cap ∧ os.length ≤ cap ∧ cap ≤ maxLen ∧
    ∀ i, i < os.length → w.cell? ⟨blk, off + i * 3, none⟩ = some (.int .i64 (playAt os i).1) ∧ w.cell? ⟨blk, off + i * 3 + 1, none⟩ = some (.int .i64 (playAt os i).2.1) ∧
      ∃ b, w.cell? ⟨blk, off + i * 3 + 2, none⟩ = some b ∧ BySl Nb w b (playAt os i).2.2
def PlayOk (os : List (Int × Int × List Int)) : Prop := ∀ i : Nat, (-9223372036854775808 ≤ (playAt os i).1 ∧ (playAt os i).1 < 9223372036854775808) ∧ (-9223372036854775808 ≤ (playAt os i).2.1 ∧ (playAt os i).2.1 < 9223372036854775808)
theorem PlaySl.shape {w : World} {v : Value} {os : List (Int × Int × List Int)} (h : PlaySl w v os) : ∃ y d, v = .slice y os.length d := by
  rcases h with ⟨⟨a, c, rfl⟩, rfl⟩ | ⟨blk, off, cap, rfl, _⟩
  · exact ⟨a, c, rfl⟩
  · exact ⟨_, _, rfl⟩
theorem PlaySl.kept {w w' : World} {v : Value} {os : List (Int × Int × List Int)} (h : PlaySl w v os) (k : Kp Nb w w') : PlaySl w' v os := by
  rcases h with h | ⟨blk, off, cap, rfl, hc, hm, hcell⟩
  · exact .inl h
  · refine .inr ⟨blk, off, cap, rfl, hc, hm, fun i hi => ?_⟩
    obtain ⟨h0, h1, b, h2, hb⟩ := hcell i hi
    exact ⟨k.cell h0 (fun h => h), k.cell h1 (fun h => h), b, k.cell h2 (fun h => h), hb.kept k (fun _ h => h)⟩

theorem cells_play : Try.prog.cellsOf 44 = 3 := by kernel_rfl

set_option maxRecDepth 100000 in
theorem open_plays {H : Type} {enc : TypeId × Value → H} {W : World} {v : Value} {d : DataW H} {p : List MemPlace}
    (h : DataW.Trod enc Try.prog W 0 (fun _ => true) true 37 v d p) (hv : ∃ a len cap, v = .slice a len cap) :
    ∃ os, PlaySl W v os ∧ PlayOk os := by
  obtain ⟨x, len, cap, rfl⟩ := hv
  obtain ⟨fuel, hf⟩ := h
  rcases Deep.open_slice Try.underlying37 hf with ⟨hcs, _⟩ | ⟨a, l, c, m, n, D, Pl, hcs, _, hl, hm, hmm, hx, hel⟩
  · simp [Value.cells] at hcs
    obtain ⟨rfl, rfl, rfl⟩ := hcs
    exact ⟨[], .inl ⟨⟨_, _, rfl⟩, rfl⟩, fun i => by simp [playAt]⟩
  · simp [Value.cells] at hcs
    obtain ⟨rfl, rfl, rfl⟩ := hcs
    have hmc : m = cap := by simpa using hmm
    subst hmc
    by_cases hn : len = 0
    · subst hn
      exact ⟨[], .inl ⟨⟨_, _, rfl⟩, rfl⟩, fun i => by simp [playAt]⟩
    · have each : ∀ i, i < len → ∃ q : Int × Int × List Int, W.cell? (a.add (i * 3)) = some (.int .i64 q.1) ∧ W.cell? (a.add (i * 3 + 1)) = some (.int .i64 q.2.1) ∧
          (∃ b, W.cell? (a.add (i * 3 + 2)) = some b ∧ BySl Nb W b q.2.2) ∧ (-9223372036854775808 ≤ q.1 ∧ q.1 < 9223372036854775808) ∧ (-9223372036854775808 ≤ q.2.1 ∧ q.2.1 < 9223372036854775808) := by
        intro i hi
        obtain ⟨cs', h1, h2⟩ := hel i (by omega)
        rw [cells_play] at h1
        obtain ⟨_, hlen, hcell⟩ := World.cells?_some h1
        obtain ⟨xs, k, _, hxy, _, hxl, hfs⟩ := DataW.trod_struct Try.underlying44 h2
        have e3 : Try.prog.cellsOf 3 = 1 := by kernel_rfl
        match cs', hlen, xs, hxl with
        | [v0, v1, v2], _, [y0, y1, y2], _ =>
          have g0 := hfs 0 _ rfl
          have g1 := hfs 1 _ rfl
          have g2 := hfs 2 _ rfl
          simp [e3, cells_bytes] at g0 g1 g2
          obtain ⟨b0, hb0, hw0⟩ := DataW.trod_int Try.underlying3 g0
          obtain ⟨b1, hb1, hw1⟩ := DataW.trod_int Try.underlying3 g1
          obtain ⟨zs, hbz⟩ := open_bytes_cell g2
          simp only [List.cons.injEq, and_true] at hb0 hb1
          subst hb0 hb1
          have c0 := hcell 0 (by omega)
          have c1 := hcell 1 (by omega)
          have c2 := hcell 2 (by omega)
          rw [Deep.add_add] at c0 c1 c2
          have w0 := hw0.2
          have w1 := hw1.2
          simp [Lit.wf] at w0 w1
          have hmin : IntKind.i64.min = -9223372036854775808 := by decide
          exact ⟨(b0, b1, zs), by simpa using c0, by simpa using c1, ⟨v2, by simpa using c2, hbz⟩, ⟨by show _ ≤ b0; omega, by show b0 < _; omega⟩, ⟨by show _ ≤ b1; omega, by show b1 < _; omega⟩⟩
      obtain ⟨q, hq⟩ := Deep.choose_lt each
      obtain ⟨blk, off, spot⟩ := a
      have hspot : spot = none := by
        have := World.cell?_spot (hq 0 (by omega)).1
        simpa [Addr.add] using this
      subst hspot
      have hget : ∀ i, i < len → playAt ((List.range len).map q) i = q i := fun i hi => by simp [playAt, hi]
      refine ⟨(List.range len).map q, .inr ⟨blk, off, m, by simp, by simpa using hl, hm, fun i hi => ?_⟩, fun i => ?_⟩
      · have hi' : i < len := by simpa using hi
        have := hq i hi'
        rw [add_none, add_none, add_none] at this
        rw [hget i hi']
        exact ⟨this.1, this.2.1, this.2.2.1⟩
      · by_cases hi : i < len
        · rw [hget i hi]
          exact (hq i hi).2.2.2
        · unfold playAt
          rw [List.getElem?_eq_none (by simp; omega)]
          decide

end Go.Proofs.Ytfbpaakgifnmaaa
