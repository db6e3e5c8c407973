/-
  An argument opened: a list of three numbers and bytes each, within the form's own reach. No condition.
-/
import Derived.Test.YtfbpaakgifnmaaaOpenPair
import Derived.Test.YtfbpaakgifnmaaaPenW
namespace Go.Proofs.Ytfbpaakgifnmaaa
open Go.ChangeShapes Go.WideShapes Go.ChangeAt Go.RowKit

theorem open_bytes_sized {H : Type} {enc : TypeId × Value → H} {W : World} {v : Value} {fuel : Nat} {x : DataW H × List MemPlace}
    (hf : DataW.trod enc Try.prog W 0 (fun _ => true) true fuel 42 [v] = some x) : ∃ zs, BySl Nb W v zs ∧ (zs = [] ∨ ∃ m, zs.length ≤ m ∧ m ∈ x.1.weights Try.prog 42) := by
  rcases open_ints Try.underlying42 Try.underlying5 cells_byte hf with ⟨hcs, _⟩ | ⟨y, l, c, zs, hcs, _, hl, hm, hz, hx, hcell, hwz⟩
  · simp only [List.cons.injEq, and_true] at hcs
    subst hcs
    exact ⟨[], ⟨fun i => by simp, .inl ⟨⟨_, _, rfl⟩, rfl⟩⟩, .inl rfl⟩
  · simp only [List.cons.injEq, and_true] at hcs
    subst hcs
    have hz' : zs.length = c := by simpa using hz
    by_cases hn : l = 0
    · subst hn
      exact ⟨[], ⟨fun i => by simp, .inl ⟨⟨_, _, rfl⟩, rfl⟩⟩, .inl rfl⟩
    · obtain ⟨blk, off, spot⟩ := y
      have hspot : spot = none := by
        have := World.cell?_spot (hcell 0 (by omega))
        simpa [Addr.add] using this
      subst hspot
      have elen : (zs.take l).length = l := by simp; omega
      refine ⟨zs.take l, ⟨fun i => ?_, .inr ⟨blk, off, c, by rw [elen], by omega, hm, fun i hi => ?_, fun _ h => h⟩⟩, .inr ?_⟩
      · have hr := range_u8 (zs := zs.take l) (fun n hn => hwz n (List.mem_of_mem_take hn)) i
        omega
      · rw [elen] at hi
        have := hcell i (by omega)
        rw [add_none] at this
        rw [List.getElem?_take_of_lt hi]
        simpa [List.getD] using this
      · subst hx
        refine ⟨((lits (H := H) .u8 (zs.take l)).length + (lits (H := H) .u8 (zs.drop l)).length) * Try.prog.bytesOf 5, ?_, ?_⟩
        · rw [bytes_byte, Nat.mul_one]
          simp [lits]
        · simp only [DataW.weights, Try.underlying42]
          exact List.mem_cons_self

theorem cells_out : Try.prog.cellsOf 99 = 4 := by kernel_rfl

set_option maxRecDepth 100000 in
theorem open_outs {H : Type} {enc : TypeId × Value → H} {W : World} {v : Value} {d : DataW H} {p : List MemPlace} {ts : List TypeId} {ds : List (DataW H)} {j0 : Nat}
    (h : DataW.Trod enc Try.prog W 0 (fun _ => true) true 54 v d p) (hv : ∃ a len cap, v = .slice a len cap)
    (hsz : (DataW.weightsEach Try.prog ts ds).all (· ≤ reachBytes) = true) (ht : ts[j0]? = some 54) (hd : ds[j0]? = some d) :
    ∃ os, OutSl W v os ∧ OutOk os := by
  obtain ⟨x, len, cap, rfl⟩ := hv
  obtain ⟨fuel, hf⟩ := h
  rcases Deep.open_slice Try.underlying54 hf with ⟨hcs, _⟩ | ⟨a, l, c, m, n, D, Pl, hcs, _, hl, hm, hmm, hx, hel⟩
  · simp [Value.cells] at hcs
    obtain ⟨rfl, rfl, rfl⟩ := hcs
    exact ⟨[], .inl ⟨⟨_, _, rfl⟩, rfl⟩, fun i => by simp [outAt]⟩
  · simp [Value.cells] at hcs
    obtain ⟨rfl, rfl, rfl⟩ := hcs
    have hmc : m = cap := by simpa using hmm
    subst hmc
    simp only [Prod.mk.injEq] at hx
    obtain ⟨hdx, _⟩ := hx
    by_cases hn : len = 0
    · subst hn
      exact ⟨[], .inl ⟨⟨_, _, rfl⟩, rfl⟩, fun i => by simp [outAt]⟩
    · have each : ∀ i, i < len → ∃ q : Int × Int × Int × List Int, W.cell? (a.add (i * 4)) = some (.int .i64 q.1) ∧ W.cell? (a.add (i * 4 + 1)) = some (.int .i64 q.2.1) ∧ W.cell? (a.add (i * 4 + 2)) = some (.int .u64 q.2.2.1) ∧
          (∃ b, W.cell? (a.add (i * 4 + 3)) = some b ∧ BySl Nb W b q.2.2.2) ∧ (-9223372036854775808 ≤ q.1 ∧ q.1 < 9223372036854775808) ∧ (-9223372036854775808 ≤ q.2.1 ∧ q.2.1 < 9223372036854775808) ∧ (0 ≤ q.2.2.1 ∧ q.2.2.1 < 18446744073709551616) ∧ q.2.2.2.length < 4611686018427387904 := by
        intro i hi
        obtain ⟨cs', h1, h2⟩ := hel i (by omega)
        rw [cells_out] at h1
        obtain ⟨_, hlen, hcell⟩ := World.cells?_some h1
        obtain ⟨xs, k, _, hxy, _, hxl, hfs⟩ := DataW.trod_struct Try.underlying99 h2
        have e3 : Try.prog.cellsOf 3 = 1 := by kernel_rfl
        have e22 : Try.prog.cellsOf 22 = 1 := by kernel_rfl
        match cs', hlen, xs, hxl with
        | [v0, v1, v2, v3], _, [y0, y1, y2, y3], _ =>
          have g0 := hfs 0 _ rfl
          have g1 := hfs 1 _ rfl
          have g2 := hfs 2 _ rfl
          have g3 := hfs 3 _ rfl
          simp [e3, e22, cells_bytes] at g0 g1 g2 g3
          obtain ⟨b0, hb0, hw0⟩ := DataW.trod_int Try.underlying3 g0
          obtain ⟨b1, hb1, hw1⟩ := DataW.trod_int Try.underlying3 g1
          obtain ⟨b2, hb2, hw2⟩ := DataW.trod_int Try.underlying22 g2
          obtain ⟨zs, hbz, hzl⟩ := open_bytes_sized g3
          simp only [List.cons.injEq, and_true] at hb0 hb1 hb2
          subst hb0 hb1 hb2
          have c0 := hcell 0 (by omega)
          have c1 := hcell 1 (by omega)
          have c2 := hcell 2 (by omega)
          have c3 := hcell 3 (by omega)
          rw [Deep.add_add] at c0 c1 c2 c3
          have w0 := hw0.2
          have w1 := hw1.2
          have w2 := hw2.2
          simp [Lit.wf] at w0 w1 w2
          have hmin : IntKind.i64.min = -9223372036854775808 := by decide
          have hminu : IntKind.u64.min = 0 := by decide
          have hmaxu : IntKind.u64.max = 18446744073709551615 := by decide
          have hlz : zs.length < 4611686018427387904 := by
            rcases hzl with rfl | ⟨mz, hle, hmem⟩
            · decide
            · have hD : D i = .agg [y0.1, y1.1, y2.1, y3.1] := by
                simp only [Prod.mk.injEq] at hxy
                simpa using hxy.1
              have hmem2 : mz ∈ (D i).weights Try.prog 99 := by
                rw [hD]
                simp only [DataW.weights, Try.underlying99]
                exact DataW.weights_mem_each (j := 3) rfl rfl _ hmem
              have hmem3 : mz ∈ d.weights Try.prog 54 := by
                rw [hdx]
                simp only [DataW.weights, Try.underlying54]
                exact List.mem_cons_of_mem _ (List.mem_append_left _ (weights_all (d := D i) (List.mem_map.2 ⟨i, List.mem_range.2 hi, rfl⟩) hmem2))
              have hmem4 := DataW.weights_mem_each ht hd _ hmem3
              have := of_decide_eq_true (List.all_eq_true.1 hsz _ hmem4)
              unfold reachBytes at this
              omega
          exact ⟨(b0, b1, b2, zs), by simpa using c0, by simpa using c1, by simpa using c2, ⟨v3, by simpa using c3, hbz⟩, ⟨by show _ ≤ b0; omega, by show b0 < _; omega⟩, ⟨by show _ ≤ b1; omega, by show b1 < _; omega⟩, ⟨by show _ ≤ b2; omega, by show b2 < _; omega⟩, hlz⟩
      obtain ⟨q, hq⟩ := Deep.choose_lt each
      obtain ⟨blk, off, spot⟩ := a
      have hspot : spot = none := by
        have := World.cell?_spot (hq 0 (by omega)).1
        simpa [Addr.add] using this
      subst hspot
      have hget : ∀ i, i < len → outAt ((List.range len).map q) i = q i := fun i hi => by simp [outAt, hi]
      refine ⟨(List.range len).map q, .inr ⟨blk, off, m, by simp, by simpa using hl, hm, fun i hi => ?_⟩, fun i => ?_⟩
      · have hi' : i < len := by simpa using hi
        have := hq i hi'
        rw [add_none, add_none, add_none, add_none] at this
        rw [hget i hi']
        exact ⟨this.1, this.2.1, this.2.2.1, this.2.2.2.1⟩
      · by_cases hi : i < len
        · rw [hget i hi]
          exact (hq i hi).2.2.2.2
        · unfold outAt
          rw [List.getElem?_eq_none (by simp; omega)]
          decide

end Go.Proofs.Ytfbpaakgifnmaaa
