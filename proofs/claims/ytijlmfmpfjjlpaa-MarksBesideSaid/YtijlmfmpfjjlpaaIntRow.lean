/-
  A list of ints as a value, and what is left of a slice that a call owns. Nothing of the program is named here but the number of the type int. No condition.
-/
import Derived.Test.YtijlmfmpfjjlpaaColl
namespace Go.Proofs.Ytijlmfmpfjjlpaa
open Go.RowKit

def IntRow (w : World) (v : Value) (zs : List Int) : Prop :=
  (zs = [] ∧ ∃ a c, v = .slice a 0 c) ∨ ∃ g cap, v = .slice (some ⟨g, 0, none⟩) zs.length cap ∧ zs.length ≤ cap ∧ cap ≤ maxLen ∧ ∀ i, i < zs.length → w.cell? ⟨g, i, none⟩ = some (.int .i64 (zs[i]?.getD 0))
theorem IntRow.kept {w w' : World} {v : Value} {zs : List Int} (h : IntRow w v zs) (k : Kp Nb w w') : IntRow w' v zs := by
  rcases h with h | ⟨g, cap, rfl, hc, hm, hcell⟩
  · exact .inl h
  · exact .inr ⟨g, cap, rfl, hc, hm, fun i hi => k.cell (hcell i hi) (fun h => h)⟩
theorem IntRow.shape {w : World} {v : Value} {zs : List Int} (h : IntRow w v zs) : ∃ a c, v = .slice a zs.length c := by
  rcases h with ⟨rfl, a, c, rfl⟩ | ⟨g, cap, rfl, _⟩
  · exact ⟨a, c, rfl⟩
  · exact ⟨_, _, rfl⟩
theorem IntRow.of {w : World} {base e n : Nat} {v : Value} {zs : List Int} (h : w.ownsRow base e 1 v n (zs.map (Value.int .i64))) : IntRow w v zs := by
  obtain ⟨h1, h2⟩ := h
  have hn : zs.length = n := by simpa using h1
  subst hn
  rcases h2 with ⟨rfl, h0⟩ | ⟨g, cap, cur, rfl, hb, hg, hnc, hm, hs, ht⟩
  · exact .inl ⟨List.eq_nil_of_length_eq_zero h0, _, _, rfl⟩
  · refine .inr ⟨g, cap, rfl, hnc, hm, fun i hi => ?_⟩
    unfold World.cell?
    rw [hg]
    have hlt : i < cur.size := by omega
    have h3 : (cur.toList.take (zs.length * 1))[i]? = some (Value.int .i64 (zs[i]?.getD 0)) := by rw [ht]; simp [hi]
    rw [List.getElem?_take_of_lt (by omega)] at h3
    simpa using h3
theorem IntRow.head {w : World} {g c n : Nat} {zs : List Int} (h : IntRow w (.slice (some ⟨g, 0, none⟩) n c) zs) {i : Nat} (hi : i < zs.length) : w.cell? ⟨g, i, none⟩ = some (.int .i64 (zs[i]?.getD 0)) := by
  rcases h with ⟨rfl, _⟩ | ⟨g', cap, e, _, _, hcell⟩
  · simp at hi
  · obtain ⟨rfl, rfl, rfl⟩ : g = g' ∧ n = zs.length ∧ c = cap := by simpa using e
    exact hcell i hi

def f1I (x : Int × Int) : List Value := [.int .i64 x.1]
def f2I (x : Int × Int) : List Value := [.int .i64 x.2]
theorem flat1 (L : List (Int × Int)) : L.flatMap f1I = (L.map (·.1)).map (Value.int .i64) := by
  induction L with
  | nil => rfl
  | cons x r ih => rw [List.flatMap_cons, ih]; rfl
theorem flat2 (L : List (Int × Int)) : L.flatMap f2I = (L.map (·.2)).map (Value.int .i64) := by
  induction L with
  | nil => rfl
  | cons x r ih => rw [List.flatMap_cons, ih]; rfl

end Go.Proofs.Ytijlmfmpfjjlpaa
