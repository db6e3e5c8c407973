/-
  What a row's argument reads as: a list of lists of bytes (PsSl), each of them within the form's own reach. No condition.
-/
import Derived.Test.YteedceepoindeaaSipF
import Derived.ProofKit
import Derived.OpenShut
import Derived.SizedLaws
import Derived.Deep.Matrix
namespace Go.Proofs.Yteedceepoindeaa
open Go.ChangeShapes Go.WideShapes Go.ChangeAt Go.RowKit

theorem own : ownKnob Try.prog.godebug = none := by kernel_rfl
theorem laidOut : laidOutB Try.prog = true := by kernel_rfl
theorem cells_bytes : Try.prog.cellsOf 68 = 1 := by kernel_rfl
theorem cells_byte : Try.prog.cellsOf 5 = 1 := by kernel_rfl
theorem bytes_byte : Try.prog.bytesOf 5 = 1 := by kernel_rfl

theorem weights_all {H : Type} {P : Program} {e : TypeId} {n : Nat} : ∀ {ds : List (DataW H)} {d : DataW H}, d ∈ ds → n ∈ d.weights P e → n ∈ DataW.weightsAll P e ds
  | d0 :: ds, d, hd, hn => by
    simp only [DataW.weightsAll, List.mem_append]
    rcases List.mem_cons.1 hd with rfl | h
    · exact .inl hn
    · exact .inr (weights_all h hn)

theorem add_none (b off i : Nat) : Addr.add ⟨b, off, none⟩ i = ⟨b, off + i, none⟩ := by
  unfold Addr.add
  split <;> simp_all

theorem open_lists {H : Type} {enc : TypeId × Value → H} {W : World} {v : Value} {d : DataW H} {p : List MemPlace} {ts : List TypeId} {ds : List (DataW H)} {j : Nat}
    (h : DataW.Trod enc Try.prog W 0 (fun _ => true) true 100 v d p) (hv : ∃ a len cap, v = .slice a len cap)
    (hsz : (DataW.weightsEach Try.prog ts ds).all (· ≤ reachBytes) = true) (ht : ts[j]? = some 100) (hd : ds[j]? = some d) :
    ∃ ps, PsSl W v ps ∧ ∀ i, i < ps.length → (ps[i]?.getD []).length ≤ reachBytes := by
  obtain ⟨a0, len0, cap0, rfl⟩ := hv
  obtain ⟨fuel, hf⟩ := h
  rcases Deep.open_int_rows Try.underlying100 Try.underlying68 Try.underlying5 cells_bytes cells_byte hf with ⟨hcs, _⟩ | ⟨a, len, cap, A, L, C, Z, hcs, _, hl, hm, hx, hrow⟩
  · simp [Value.cells] at hcs
    obtain ⟨rfl, rfl, rfl⟩ := hcs
    exact ⟨[], .inl ⟨⟨_, _, rfl⟩, rfl⟩, by simp⟩
  · simp [Value.cells] at hcs
    obtain ⟨rfl, rfl, rfl⟩ := hcs
    simp only [Prod.mk.injEq] at hx
    obtain ⟨rfl, _⟩ := hx
    refine ⟨(List.range len0).map fun r => (Z r).take (L r), ?_, ?_⟩
    · by_cases h0 : len0 = 0
      · subst h0
        exact .inl ⟨⟨_, _, rfl⟩, rfl⟩
      · obtain ⟨b, off, spot⟩ := a
        have hspot : spot = none := by
          have := World.cell?_spot (hrow 0 (by omega)).1
          simpa [Addr.add] using this
        subst hspot
        refine .inr ⟨b, off, cap0, by simp, by simpa using hl, hm, fun i hi => ?_⟩
        have hi' : i < len0 := by simpa using hi
        obtain ⟨c1, c2, c3, c4, c5, c6, c7⟩ := hrow i (by omega)
        rw [add_none] at c1
        refine ⟨_, c1, ?_⟩
        have e1 : (((List.range len0).map fun r => (Z r).take (L r))[i]?.getD []) = (Z i).take (L i) := by simp [hi']
        rw [e1]
        have elen : ((Z i).take (L i)).length = L i := by simp; omega
        refine ⟨fun k => ?_, ?_⟩
        · have hr := range_u8 (zs := (Z i).take (L i)) (fun n hn => c5 n (List.mem_of_mem_take hn)) k
          omega
        · by_cases hL : L i = 0
          · exact .inl ⟨⟨_, _, by rw [hL]⟩, by rw [hL]; simp⟩
          · cases hA : A i with
            | none => exact absurd (c6 hA) (by omega)
            | some a' =>
              obtain ⟨_, c8⟩ := c7 a' hA
              obtain ⟨b', off', spot'⟩ := a'
              have hs' : spot' = none := by
                have := World.cell?_spot (c8 0 (by omega))
                simpa [Addr.add] using this
              subst hs'
              refine .inr ⟨b', off', C i, by rw [elen], by rw [elen]; exact c2, c3, fun k hk => ?_, fun _ h => h⟩
              rw [elen] at hk
              have := c8 k (by omega)
              rw [List.getElem?_take_of_lt hk]
              rw [add_none] at this
              simpa [List.getD] using this
    · intro i hi
      have hi' : i < len0 := by simpa using hi
      obtain ⟨c1, c2, c3, c4, c5, c6, c7⟩ := hrow i (by omega)
      have e1 : (((List.range len0).map fun r => (Z r).take (L r))[i]?.getD []) = (Z i).take (L i) := by simp [hi']
      rw [e1]
      have elen : ((Z i).take (L i)).length = L i := by simp; omega
      rw [elen]
      cases hA : A i with
      | none => have := c6 hA; have : L i = 0 := by omega
                rw [this]; exact Nat.zero_le _
      | some a' =>
        have hmem : ((lits (H := H) .u8 ((Z i).take (L i))).length + (lits (H := H) .u8 ((Z i).drop (L i))).length) * Try.prog.bytesOf 5 ∈ DataW.weightsEach Try.prog ts ds := by
          refine DataW.weights_mem_each ht hd _ ?_
          simp only [DataW.weights, Try.underlying100]
          refine List.mem_cons_of_mem _ (List.mem_append_left _ (weights_all (d := Deep.intRow .u8 (A i) (L i) (Z i)) (List.mem_map.2 ⟨i, List.mem_range.2 hi', rfl⟩) ?_))
          rw [hA]
          simp only [Deep.intRow, DataW.weights, Try.underlying68]
          exact List.mem_cons_self
        have hb := List.all_eq_true.1 hsz _ hmem
        rw [bytes_byte] at hb
        simp [lits] at hb
        omega

end Go.Proofs.Yteedceepoindeaa
