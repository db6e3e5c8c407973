/-
  append of a slice whose elements are known (rows side by side) to a slice that the call owns, nil or not. Nothing of the program is named here. Conditions: as append's laws.
-/
import Derived.Test.YtbbfibgijackhaaGreatDoorRowCut
import Derived.Test.YtbbfibgijackhaaGreatDoorFlat
import Derived.Test.YtbbfibgijackhaaGreatDoorColl
import Derived.Laws.AppendOwnNone
namespace Go.Proofs.YtbbfibgijackhaaGreatDoor
open Go.RowKit

section
variable {P : Program} {α : Type} {f : α → List Value} {z : α} {c : Nat} {w : World}
theorem flat_cell {blk off : Nat} {qs : List α} (hf : ∀ q ∈ qs, (f q).length = c) (h : ∀ i, i < qs.length → w.rangeAt blk (off + i * c) (f (qs[i]?.getD z))) (j : Nat) (u : Value) (hj : (flatR f qs)[j]? = some u) : w.cell? ⟨blk, off + j, none⟩ = some u := by
  have hl := flatR_length qs hf
  have hlt : j < qs.length * c := by
    have := (List.getElem?_eq_some_iff.1 hj).1
    rw [hl] at this
    exact this
  have hc : 0 < c := by
    rcases Nat.eq_zero_or_pos c with h0 | h0
    · rw [h0] at hlt; omega
    · exact h0
  have e : j = j / c * c + j % c := by rw [Nat.mul_comm]; exact (Nat.div_add_mod j c).symm
  have hi : j / c < qs.length := by rw [Nat.div_lt_iff_lt_mul hc]; exact hlt
  have h2 := h (j / c) hi (j % c) u (by
    rw [← flatR_get (f := f) (z := z) (c := c) qs (j / c) (j % c) hf hi (Nat.mod_lt _ hc), ← e]; exact hj)
  rw [show off + j = off + j / c * c + j % c from by rw [Nat.add_assoc, ← e]]
  exact h2
theorem run_append_zero (base : Nat) (t ty e : TypeId) (i : TypeInfo) (size : Nat) (ht : P.underlying t = some (.slice e)) (hi : P.info? e = some i)
    (v : Value) (n : Nat) (xs : List Value) (hown : w.ownsRow base e size v n xs) (cap : Nat) :
    (Builtin.append_ #[t, t] ty #[v, .slice none 0 cap]).run P w = .ok v w := by
  rcases hown.2 with ⟨rfl, rfl⟩ | ⟨g, cap', cur, rfl, _, _, hnc, _⟩
  · simp [Builtin.append_, run_underlying ht, sizeOf, typeInfo, hi, Builtin.lenOf, Builtin.firstCells]
  · simp [Builtin.append_, run_underlying ht, sizeOf, typeInfo, hi, Builtin.lenOf, Builtin.firstCells, hnc, storeCells]
theorem run_append_rows (base : Nat) (t ty e : TypeId) (i : TypeInfo) (z0 : Value) (bytes : Nat) (ht : P.underlying t = some (.slice e)) (hi : P.info? e = some i) (hz : i.zero = some z0)
    (hsize : i.size = c) (hby : i.bytes = bytes) (hzs : z0.cells.size = c) (hsz : 0 < c)
    (v : Value) (n : Nat) (xs : List Value) (hown : w.ownsRow base e c v n xs) (x : Value) (rs : List α) (hx : RowsSl f z c w x rs) (hf : ∀ q ∈ rs, (f q).length = c) (h1 : ∀ q ∈ rs, ∀ u ∈ f q, u.oneCell' = true)
    (h63 : n + rs.length ≤ maxLen) (hbytes : (n + rs.length) * bytes ≤ 140737488355328) (hbase : base ≤ w.heap.size) :
    ∃ v' w', (Builtin.append_ #[t, t] ty #[v, x]).run P w = .ok v' w' ∧ w'.ownsRow base e c v' (n + rs.length) (xs ++ flatR f rs) ∧ w.grownBy w' v.ownBlock := by
  have one : ∀ u ∈ flatR f rs, u.oneCell' = true := fun u hu => by
    obtain ⟨q, hq, hu⟩ := List.mem_flatMap.1 hu
    exact h1 q hq u hu
  rcases hx with ⟨⟨a, cap, rfl⟩, rfl⟩ | ⟨blk, off, cap, rfl, hc, hm, hr⟩
  · cases a with
    | none =>
      refine ⟨v, w, run_append_zero base t ty e i c ht hi v n xs hown cap, ?_, ?_⟩
      · simpa [flatR] using hown
      · exact World.grownBy.refl _ _
    | some ad =>
      obtain ⟨v', w', h2, h3, h4, _⟩ := run_append_own (P := P) w base t ty e i z0 c bytes ht hi hz hsize hby hzs hsz v n xs hown ad 0 cap [] (by simp) (fun j u hj => by simp at hj) (fun u hu => by simp at hu) (by simpa using h63) (by simpa using hbytes) hbase
      exact ⟨v', w', h2, by simpa [flatR] using h3, h4⟩
  · obtain ⟨v', w', h2, h3, h4, _⟩ := run_append_own (P := P) w base t ty e i z0 c bytes ht hi hz hsize hby hzs hsz v n xs hown ⟨blk, off, none⟩ rs.length cap (flatR f rs) (flatR_length rs hf)
      (fun j u hj => by rw [add_mid]; exact flat_cell hf hr j u hj) one h63 hbytes hbase
    exact ⟨v', w', h2, h3, h4⟩
theorem wpList_append_rows {ops : Array Oper} {rest : List Oper} {o : Oper} {a : Act} {Q : Exit → Act → World → Prop} (hgd : o.guard = none) (s x : Operand) (t : TypeId)
    (ho : o.op = .call { callee := .builtin .append, args := #[s, x], argTypes := #[t, t] })
    (base : Nat) (e : TypeId) (i : TypeInfo) (z0 : Value) (bytes : Nat) (ht : P.underlying t = some (.slice e)) (hi : P.info? e = some i) (hz : i.zero = some z0)
    (hsize : i.size = c) (hby : i.bytes = bytes) (hzs : z0.cells.size = c) (hsz : 0 < c)
    (v : Value) (n : Nat) (xs : List Value) (hs : a.eval s = v) (hown : w.ownsRow base e c v n xs) (xv : Value) (rs : List α) (hxv : a.eval x = xv) (hx : RowsSl f z c w xv rs) (hf : ∀ q ∈ rs, (f q).length = c) (h1 : ∀ q ∈ rs, ∀ u ∈ f q, u.oneCell' = true)
    (h63 : n + rs.length ≤ maxLen) (hbytes : (n + rs.length) * bytes ≤ 140737488355328) (hbase : base ≤ w.heap.size)
    (h : ∀ v' w', w'.ownsRow base e c v' (n + rs.length) (xs ++ flatR f rs) → w.grownBy w' v.ownBlock → wpList P ops Q rest (a.put o.dst v') w') : wpList P ops Q (o :: rest) a w := by
  obtain ⟨v', w', hrun, h2, h3⟩ := run_append_rows (P := P) (w := w) base t o.type e i z0 bytes ht hi hz hsize hby hzs hsz v n xs hown xv rs hx hf h1 h63 hbytes hbase
  refine wpList_plain hgd fun K hK => ?_
  unfold Oper.wp
  simp [execOp, ho, resolve, invoke, builtin, hs, hxv, hrun, Result.andThen]
  exact hK _ _ (h v' w' h2 h3)
/-- What the call owns, as a slice of rows. -/
theorem rows_owned {base e : Nat} {v : Value} {qs : List α} (h : w.ownsRow base e c v qs.length (flatR f qs)) (hf : ∀ q ∈ qs, (f q).length = c) : RowsSl f z c w v qs := by
  by_cases hn : 0 < qs.length
  · obtain ⟨g, cap, rest, rfl, -, hb, h1, h2⟩ := own_blk h hn
    refine .inr ⟨g, 0, cap, rfl, h1, h2, fun i hi => ?_⟩
    rw [Nat.zero_add]
    refine flat_range hb hf i hi ?_
    rw [List.getElem?_eq_getElem hi]
    exact hf _ (List.getElem_mem hi)
  · have e : qs = [] := List.length_eq_zero_iff.1 (by omega)
    subst e
    obtain ⟨p, q, rfl⟩ := own_shape h
    exact .inl ⟨⟨_, _, rfl⟩, rfl⟩
end

end Go.Proofs.YtbbfibgijackhaaGreatDoor
