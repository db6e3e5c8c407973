/-
  Layer 19: frames one behind the other, plain; the statements' own `all` as rows. Conditions: bytes; right frames; at most a million bytes.
-/
import Derived.Test.YtmgmghlflldepaaFrP
import Derived.Test.YtmgmghlflldepaaFrH
namespace Go.Proofs.Ytmgmghlflldepaa
open Go.RowKit Go.Shelf

abbrev FrK := Int × List Int
def RtF (f : FrK) : Prop := rightF f.1 f.2.length = true ∧ IsBytes f.2
def joinF (fs : List FrK) : List Int := fs.flatMap fun f => frameF f.1 f.2
theorem joinF_nil : joinF [] = [] := rfl
theorem joinF_cons (f : FrK) (r : List FrK) : joinF (f :: r) = frameF f.1 f.2 ++ joinF r := by simp [joinF]
theorem joinF_append (a b : List FrK) : joinF (a ++ b) = joinF a ++ joinF b := by simp [joinF]
theorem joinF_bytes : ∀ fs : List FrK, (∀ f ∈ fs, RtF f) → IsBytes (joinF fs)
  | [], _ => IsBytes.of fun z hz => by cases hz
  | f :: r, h => by
    rw [joinF_cons]
    have hf := h f (by simp)
    exact (frame_bytes f.1 f.2 hf.2 hf.1).append (joinF_bytes r (fun g hg => h g (by simp [hg])))
theorem next_nil : (nextF []).2.2.2 = 10 := rfl
theorem next_join {f : FrK} {r : List FrK} (h : ∀ g ∈ f :: r, RtF g) : nextF (joinF (f :: r)) = (f.1, f.2, ((frameF f.1 f.2).length : Int), 0) := by
  rw [joinF_cons]
  have hf := h f (by simp)
  exact next_frame f.1 f.2 _ hf.2 (joinF_bytes r (fun g hg => h g (by simp [hg]))) hf.1
theorem drop_join (fs : List FrK) (j : Nat) : (joinF fs).drop (joinF (fs.take j)).length = joinF (fs.drop j) := by
  have e : joinF fs = joinF (fs.take j) ++ joinF (fs.drop j) := by rw [← joinF_append, List.take_append_drop]
  rw [e, List.drop_left]
theorem at_join {fs : List FrK} (h : ∀ g ∈ fs, RtF g) : ∀ j, j ≤ fs.length → atF (joinF fs) j = (joinF (fs.take j)).length
  | 0, _ => rfl
  | j + 1, hj => by
    have ih := at_join h j (by omega)
    have hd := drop_join fs j
    have he : fs.drop j = fs[j] :: fs.drop (j + 1) := List.drop_eq_getElem_cons (by omega)
    have hn : frF (joinF fs) j = (fs[j].1, fs[j].2, ((frameF fs[j].1 fs[j].2).length : Int), 0) := by
      unfold frF
      rw [ih, hd, he]
      exact next_join (fun g hg => h g (List.mem_of_mem_drop (he ▸ hg)))
    rw [atF_succ, hn, ih, List.take_succ_eq_append_getElem (by omega), joinF_append, List.length_append, joinF_cons, joinF_nil, List.append_nil]
    rfl
theorem fr_join {fs : List FrK} (h : ∀ g ∈ fs, RtF g) (j : Nat) (hj : j < fs.length) : frF (joinF fs) j = (fs[j].1, fs[j].2, ((frameF fs[j].1 fs[j].2).length : Int), 0) := by
  have he : fs.drop j = fs[j] :: fs.drop (j + 1) := List.drop_eq_getElem_cons hj
  unfold frF
  rw [at_join h j (by omega), drop_join fs j, he]
  exact next_join (fun g hg => h g (List.mem_of_mem_drop (he ▸ hg)))
theorem ok_join {fs : List FrK} (h : ∀ g ∈ fs, RtF g) (j : Nat) (hj : j < fs.length) : okF (joinF fs) j := by unfold okF; rw [fr_join h j hj]
theorem not_join {fs : List FrK} (h : ∀ g ∈ fs, RtF g) : ¬ okF (joinF fs) fs.length := by
  unfold okF frF
  rw [at_join h fs.length (Nat.le_refl _), drop_join, List.drop_length, joinF_nil, next_nil]
  decide
/-- How many frames are found. -/
theorem found_join {fs : List FrK} (h : ∀ g ∈ fs, RtF g) {xs : List FrE3} {W : World} {m : Int} (hs : SpF (joinF fs) xs W) (hm : (fs.length : Int) < m) (he : xs.length = m.toNat ∨ (xs.length ≤ m.toNat ∧ ¬ okF (joinF fs) xs.length)) : xs.length = fs.length := by
  have h1 : xs.length ≤ fs.length := Nat.le_of_not_lt fun hlt => not_join h (hs.1 fs.length hlt)
  rcases he with he | ⟨-, he⟩
  · omega
  · refine Nat.le_antisymm h1 (Nat.le_of_not_lt fun hlt => he (ok_join h _ hlt))

abbrev zF3 : FrE3 := (0, (0, (none, (0, 0))))
theorem f1_one (x : FrE3) : ∀ u ∈ f1F x, u.oneCell' = true := fun u hu => by rw [List.mem_singleton.1 hu]; rfl
theorem fall_rows (v : Value) (zs : List Int) (m : Int) (w : World) (hv : BySl Nb w v zs) (hbig : zs.length ≤ 1000000) :
    Calls Try.prog 16 #[v, .int .i64 m] w fun e w' => ∃ v1 v2 xs, e = .returned (.tuple #[v1, v2]) ∧ RowsSl f1F zF3 1 w' v1 xs ∧ RowsSl f2F zF3 2 w' v2 xs ∧ SpF zs xs w' ∧ (xs.length = m.toNat ∨ (xs.length ≤ m.toNat ∧ ¬ okF zs xs.length)) ∧ Kp Nb w w' := by
  refine (callsIn_wide.1 (lall_in 3 (Nat.le_refl _) v zs m w hv hbig)).mono fun _ _ ⟨v1, v2, xs, he, ⟨h1, h2⟩, h3, h4, hB⟩ => ?_
  exact ⟨v1, v2, xs, he, rows_owned h3 (fun _ _ => rfl), rows_owned h4 (fun _ _ => rfl), h1, h2, Kp.of_below hB⟩
theorem rows_by {S : Nat → Prop} {w : World} {v : Value} {zs : List Int} (h : BySl S w v zs) : RowsSl bF 0 1 w v zs := by
  rcases h.2 with h | ⟨blk, off, cap, rfl, hc, hm, hb, -⟩
  · exact .inl h
  · refine .inr ⟨blk, off, cap, rfl, hc, hm, fun i hi j u hu => ?_⟩
    have hj : j = 0 := by
      have := (List.getElem?_eq_some_iff.1 hu).1
      simp at this
      omega
    subst hj
    have : u = .int .u8 (zs[i]?.getD 0) := by simpa using hu.symm
    subst this
    rw [Nat.mul_one, Nat.add_zero]
    exact hb i hi

end Go.Proofs.Ytmgmghlflldepaa
