/-
  append, and what it leaves of the old value: the old value still owns what it owned, in place or behind a move; and what a step leaves of blocks whose type is not the one it turns. Nothing of the program is named here. Conditions: as append's laws.
-/
import Derived.Test.YtfbpaakgifnmaaaKp
import Derived.Deep.AppendLies
namespace Go.Proofs.Ytfbpaakgifnmaaa
open Go.RowKit

theorem own_prefix {w : World} {base e size n m cap g : Nat} {xs news : List Value} (h : w.ownsRow base e size (.slice (some ⟨g, 0, none⟩) (n + m) cap) (n + m) (xs ++ news)) (hx : xs.length = n * size) : w.ownsRow base e size (.slice (some ⟨g, 0, none⟩) n cap) n xs := by
  refine ⟨hx, ?_⟩
  rcases h.2 with ⟨h', _⟩ | ⟨g', cap', cur, h', hb, hg, hnc, hcm, hcs, ht⟩
  · simp at h'
  · simp only [Value.slice.injEq, Option.some.injEq, Addr.mk.injEq, and_true, true_and] at h'
    obtain ⟨rfl, rfl⟩ := h'
    refine .inr ⟨g, cap, cur, rfl, hb, hg, by omega, hcm, hcs, ?_⟩
    have h1 : cur.toList.take (n * size) = ((cur.toList.take ((n + m) * size))).take (n * size) := by
      rw [List.take_take, Nat.min_eq_left (Nat.mul_le_mul_right _ (Nat.le_add_right _ _))]
    rw [h1, ht, ← hx, List.take_left]

section
variable {P : Program} (w : World)
theorem run_append_keep (t ty : TypeId) (base : Nat) (e : TypeId) (i : TypeInfo) (z : Value) (size bytes : Nat) (ht : P.underlying t = some (.slice e)) (hi : P.info? e = some i) (hz : i.zero = some z)
    (hsize : i.size = size) (hby : i.bytes = bytes) (hzs : z.cells.size = size) (hsz : 0 < size)
    (g0 n c0 : Nat) (xs : List Value) (hown : w.ownsRow base e size (.slice (some ⟨g0, 0, none⟩) n c0) n xs)
    (ad : Addr) (m c : Nat) (news : List Value) (hl : news.length = m * size) (hnews : ∀ j u, news[j]? = some u → w.cell? (ad.add j) = some u) (h1 : ∀ u ∈ news, u.oneCell' = true)
    (hm : 0 < m) (h63 : n + m ≤ maxLen) (hbytes : (n + m) * bytes ≤ 140737488355328) (hbase : base ≤ w.heap.size) :
    ∃ g cap w', (Builtin.append_ #[t, t] ty #[.slice (some ⟨g0, 0, none⟩) n c0, .slice (some ad) m c]).run P w = .ok (.slice (some ⟨g, 0, none⟩) (n + m) cap) w' ∧
      w'.ownsRow base e size (.slice (some ⟨g, 0, none⟩) (n + m) cap) (n + m) (xs ++ news) ∧ w.grownBy w' (some g0) ∧ (g = g0 ∨ g = w.heap.size) ∧ w'.ownsRow base e size (.slice (some ⟨g0, 0, none⟩) n c0) n xs := by
  by_cases hroom : n + m ≤ c0
  · obtain ⟨w', hr, ho, hg⟩ := run_append_fits (P := P) w base t ty e i size ht hi hsize g0 n c0 xs hown ad m c news hl hnews h1 hroom
    exact ⟨g0, c0, w', hr, ho, hg, .inl rfl, own_prefix ho hown.1⟩
  · obtain ⟨g, cap, w', hr, h2, h3, h4, h5⟩ := run_append_lies (P := P) w t ty base e i z size bytes ht hi hz hsize hby hzs hsz _ n xs hown ad m c news hl hnews h1 hm h63 hbytes hbase w.heap.size rfl
    have h63' : n + m ≤ 9223372036854775807 := by simp only [maxLen] at h63; omega
    have hgr := run_append_grow (P := P) w t ty e i z ht hi hz ⟨g0, 0, none⟩ n c0 xs (by rw [hsize]; exact hown.1) (hown.cells (g := g0) rfl) ad m c news (by rw [hsize]; exact hl) hnews (by omega) (by omega) (growslice_fits (by omega) (by rw [hby]; exact hbytes))
    rw [hr] at hgr
    injection hgr with e1 e2
    simp only [Value.slice.injEq, Option.some.injEq, Addr.mk.injEq, and_true, true_and] at e1
    refine ⟨g, cap, w', hr, h2, h3, .inr e1.1, ?_⟩
    refine ⟨hown.1, ?_⟩
    rcases hown.2 with ⟨h', _⟩ | ⟨g', cap', cur, h', hb, hg, hrest⟩
    · simp at h'
    · simp only [Value.slice.injEq, Option.some.injEq, Addr.mk.injEq, and_true, true_and] at h'
      obtain ⟨rfl, rfl⟩ := h'
      refine .inr ⟨g0, c0, cur, rfl, hb, ?_, hrest⟩
      rw [e2]
      exact (Below.heap_alloc w.drew _ _ (Array.getElem?_eq_some_iff.1 hg).1).trans hg

theorem step_append_keep {ops : Array Oper} {o : Oper} {a : Act} {K : Act → World → Prop} {Q : Exit → Act → World → Prop} {E : Prop} (hgd : o.guard = none) (s x : Operand) (t : TypeId)
    (ho : o.op = .call { callee := .builtin .append, args := #[s, x], argTypes := #[t, t] })
    (base : Nat) (e : TypeId) (i : TypeInfo) (z : Value) (size bytes : Nat) (ht : P.underlying t = some (.slice e)) (hi : P.info? e = some i) (hz : i.zero = some z)
    (hsize : i.size = size) (hby : i.bytes = bytes) (hzs : z.cells.size = size) (hsz : 0 < size)
    (g0 n c0 : Nat) (xs : List Value) (hs : a.eval s = .slice (some ⟨g0, 0, none⟩) n c0) (hown : w.ownsRow base e size (.slice (some ⟨g0, 0, none⟩) n c0) n xs)
    (ad : Addr) (m c : Nat) (news : List Value) (hx : a.eval x = .slice (some ad) m c) (hl : news.length = m * size) (hnews : ∀ j u, news[j]? = some u → w.cell? (ad.add j) = some u) (h1 : ∀ u ∈ news, u.oneCell' = true)
    (hm : 0 < m) (h63 : n + m ≤ maxLen) (hbytes : (n + m) * bytes ≤ 140737488355328) (hbase : base ≤ w.heap.size)
    (h : ∀ g cap w', w'.ownsRow base e size (.slice (some ⟨g, 0, none⟩) (n + m) cap) (n + m) (xs ++ news) → w.grownBy w' (some g0) → (g = g0 ∨ g = w.heap.size) → w'.ownsRow base e size (.slice (some ⟨g0, 0, none⟩) n c0) n xs → K (a.put o.dst (.slice (some ⟨g, 0, none⟩) (n + m) cap)) w') :
    if Region.wanted o (yielded ops a.tmps) = true then Oper.wp P o a w K Q else E := by
  have hw : Region.wanted o (yielded ops a.tmps) = true := by simp [Region.wanted, hgd]
  rw [if_pos hw]
  obtain ⟨g, cap, w', hr, h2, h3, h4, h5⟩ := run_append_keep (P := P) w t o.type base e i z size bytes ht hi hz hsize hby hzs hsz g0 n c0 xs hown ad m c news hl hnews h1 hm h63 hbytes hbase
  unfold Oper.wp execOp
  simp only [ho, resolve, invoke, builtin, Sem.run_bind, Sem.run_pure, Result.andThen_ok, List.map_toArray, List.map_cons, List.map_nil, hs, hx, hr]
  exact h g cap w' h2 h3 h4 h5
end

/-- A step that turns nothing but blocks of cells of type e (and makes new ones). -/
structure Mv (e : TypeId) (w w' : World) : Prop where
  size : w.heap.size ≤ w'.heap.size
  ty : ∀ (B : Nat) (vs : Array Value) (t : TypeId) (fr : Nat × Nat), t ≠ e → w.heap[B]? = some (.cells vs t fr) → w'.heap[B]? = some (.cells vs t fr)
theorem Mv.ofGrown {w w' : World} {base e size n c0 g0 : Nat} {xs : List Value} (h : w.ownsRow base e size (.slice (some ⟨g0, 0, none⟩) n c0) n xs) (g : w.grownBy w' (some g0)) : Mv e w w' := by
  refine ⟨g.size, fun B vs t fr hne hB => ?_⟩
  refine (g.block B (Array.getElem?_eq_some_iff.1 hB).1 (fun he => ?_)).trans hB
  injection he with he
  subst he
  rcases h.2 with ⟨h', _⟩ | ⟨g', cap', cur, h', hb, hg, hrest⟩
  · simp at h'
  · simp only [Value.slice.injEq, Option.some.injEq, Addr.mk.injEq, and_true, true_and] at h'
    obtain ⟨rfl, rfl⟩ := h'
    rw [hB] at hg
    injection hg with hg
    injection hg with _ hg _
    exact hne hg
theorem Mv.blk {w w' : World} {e t B : Nat} {vs : List Value} (m : Hid (Mv e w w')) (hne : t ≠ e) (h : Blk w B t vs) : Blk w' B t vs := m.out.ty B _ t _ hne h
theorem Mv.row {w w' : World} {base e t size n : Nat} {v : Value} {xs : List Value} (m : Hid (Mv e w w')) (hne : t ≠ e) (h : w.ownsRow base t size v n xs) : w'.ownsRow base t size v n xs := by
  refine ⟨h.1, ?_⟩
  rcases h.2 with hn | ⟨g, cap, cur, rfl, hb, hg, hrest⟩
  · exact .inl hn
  · exact .inr ⟨g, cap, cur, rfl, hb, m.out.ty _ _ _ _ hne hg, hrest⟩
theorem news_of_blk {w : World} {B : Nat} {t : TypeId} {vs : List Value} (h : Blk w B t vs) : ∀ j u, vs[j]? = some u → w.cell? ((⟨B, 0, none⟩ : Addr).add j) = some u := fun j u hu => by
  have hadd : (⟨B, 0, none⟩ : Addr).add j = ⟨B, j, none⟩ := by unfold Addr.add; split <;> simp_all
  rw [hadd, h.cell j]
  exact hu
theorem Blk.newAt {w : World} {B : Nat} {t : TypeId} {vs : List Value} (h : w.heap.size = B) : Blk (w.alloc (.cells vs.toArray t)) B t vs := by
  subst h
  exact Blk.new w t vs
theorem Blk.keptN {w w' : World} {B : Nat} {t : TypeId} {vs : List Value} (k : Hid (Kp Nb w w')) (h : Blk w B t vs) : Blk w' B t vs := h.kept k.out (fun h => h)
theorem row_keptN {w w' : World} {base e size n : Nat} {v : Value} {xs : List Value} (k : Hid (Kp Nb w w')) (h : w.ownsRow base e size v n xs) : w'.ownsRow base e size v n xs := by
  refine ⟨h.1, ?_⟩
  rcases h.2 with hn | ⟨g, cap, cur, rfl, hb, hg, hrest⟩
  · exact .inl hn
  · exact .inr ⟨g, cap, cur, rfl, hb, (k.out.heap (Array.getElem?_eq_some_iff.1 hg).1 (fun h => h)).trans hg, hrest⟩
theorem row_alloc {w : World} {base e size n : Nat} {v : Value} {xs : List Value} (h : w.ownsRow base e size v n xs) (o : Obj) : (w.alloc o).ownsRow base e size v n xs := row_keptN (hid ((Kp.refl Nb w).alloc o)) h
theorem row_drew {w : World} {base e size n : Nat} {v : Value} {xs : List Value} (h : w.ownsRow base e size v n xs) : w.drew.ownsRow base e size v n xs := h

end Go.Proofs.Ytfbpaakgifnmaaa
