/-
  Layer 1: many sums side by side: what a write, a clone and a call that keeps everything leave of them. Plain. No condition.
-/
import Derived.Test.YtfbpaakgifnmaaaSipG
import Derived.Test.YtfbpaakgifnmaaaJoined
namespace Go.Proofs.Ytfbpaakgifnmaaa
open Go.RowKit

theorem row_keptK {S : Nat → Prop} {w w' : World} {base e size n : Nat} {v : Value} {xs : List Value} (h : w.ownsRow base e size v n xs) (k : Kp S w w') (hs : ∀ g, v.ownBlock = some g → ¬ S g) : w'.ownsRow base e size v n xs := by
  refine ⟨h.1, ?_⟩
  rcases h.2 with hn | ⟨g, cap, cur, rfl, hb, hg, hrest⟩
  · exact .inl hn
  · exact .inr ⟨g, cap, cur, rfl, hb, (k.heap (Array.getElem?_eq_some_iff.1 hg).1 (hs g rfl)).trans hg, hrest⟩
theorem row_ne_blk {w : World} {base e size n B t : Nat} {v : Value} {xs vs : List Value} (h : w.ownsRow base e size v n xs) (hb : Blk w B t vs) (hne : t ≠ e) : v.ownBlock ≠ some B := by
  intro hv
  rcases h.2 with ⟨rfl, _⟩ | ⟨g, cap, cur, rfl, hbb, hg, hrest⟩
  · simp [Value.ownBlock] at hv
  · simp [Value.ownBlock] at hv
    subst hv
    unfold Blk at hb
    rw [hg] at hb
    injection hb with hb
    injection hb with _ hb _
    exact hne hb.symm
theorem row_ne_row {w : World} {b1 b2 e1 e2 s1 s2 n1 n2 : Nat} {v1 v2 : Value} {xs ys : List Value} (h : w.ownsRow b1 e1 s1 v1 n1 xs) (h' : w.ownsRow b2 e2 s2 v2 n2 ys) (hne : e1 ≠ e2) (g : Nat) (hg1 : v1.ownBlock = some g) : v2.ownBlock ≠ some g := by
  intro hg2
  rcases h.2 with ⟨rfl, _⟩ | ⟨g1, c1, cur1, rfl, _, hb1, _⟩
  · simp [Value.ownBlock] at hg1
  · rcases h'.2 with ⟨rfl, _⟩ | ⟨g2, c2, cur2, rfl, _, hb2, _⟩
    · simp [Value.ownBlock] at hg2
    · simp [Value.ownBlock] at hg1 hg2
      subst hg1 hg2
      rw [hb1] at hb2
      injection hb2 with hb2
      injection hb2 with _ hb2 _
      exact hne hb2

def ptrs (Bs : List Nat) : List Value := Bs.map fun B => .pointer (some ⟨B, 0, none⟩)
def strs (ql : List (List Int)) : List Value := ql.map fun zs => .string (st zs)
def bAt (Bs : List Nat) (j : Nat) : Nat := Bs[j]?.getD 0
def zAt (pl : List (List Int)) (j : Nat) : List Int := pl[j]?.getD []
/-- Sums with keys a, b over pl, in the blocks Bs; a list of pointers to them, and a list of strings ql. -/
structure Many (w : World) (a b : Int) (va vw : Value) (Bs : List Nat) (pl ql : List (List Int)) (wr : World) : Prop where
  l1 : Bs.length = pl.length
  l2 : ql.length = pl.length
  ra : wr.ownsRow w.heap.size 38 1 va pl.length (ptrs Bs)
  rs : wr.ownsRow w.heap.size 9 1 vw pl.length (strs ql)
  new : ∀ j, j < pl.length → w.heap.size ≤ bAt Bs j
  dif : ∀ i j, i < pl.length → j < pl.length → bAt Bs i = bAt Bs j → i = j
  sums : ∀ j, j < pl.length → SipAt wr (bAt Bs j) ((Sp.init a b).write (zAt pl j))
  kp : Kp Nb w wr
theorem Many.ptr {w wr : World} {a b : Int} {va vw : Value} {Bs : List Nat} {pl ql : List (List Int)} (h : Many w a b va vw Bs pl ql wr) {j : Nat} (hj : j < pl.length) : (ptrs Bs)[j]? = some (.pointer (some ⟨bAt Bs j, 0, none⟩)) := by
  unfold ptrs bAt
  rw [List.getElem?_map, List.getElem?_eq_getElem (by rw [h.l1]; exact hj)]
  rfl
theorem Many.str {w wr : World} {a b : Int} {va vw : Value} {Bs : List Nat} {pl ql : List (List Int)} (h : Many w a b va vw Bs pl ql wr) {j : Nat} (hj : j < pl.length) : (strs ql)[j]? = some (.string (st (zAt ql j))) := by
  unfold strs zAt
  rw [List.getElem?_map, List.getElem?_eq_getElem (by rw [h.l2]; exact hj)]
  rfl
theorem Many.keep {w wr w' : World} {a b : Int} {va vw : Value} {Bs : List Nat} {pl ql : List (List Int)} (h : Many w a b va vw Bs pl ql wr) (k : Kp Nb wr w') : Many w a b va vw Bs pl ql w' :=
  ⟨h.l1, h.l2, row_keptK h.ra k (fun _ _ h => h), row_keptK h.rs k (fun _ _ h => h), h.new, h.dif, fun j hj => Blk.kept (h.sums j hj) k (fun h => h), h.kp.trans k (fun _ _ h => h)⟩
theorem Many.write {w wr w' : World} {a b : Int} {va vw : Value} {Bs : List Nat} {pl ql : List (List Int)} {j : Nat} {zs : List Int} (h : Many w a b va vw Bs pl ql wr) (hj : j < pl.length)
    (hs : SipAt w' (bAt Bs j) (((Sp.init a b).write (zAt pl j)).write zs)) (k : Kp (Jb (bAt Bs j)) wr w') : Many w a b va vw Bs (pl.set j (zAt pl j ++ zs)) ql w' := by
  have hb := h.sums j hj
  have t1 : (95 : Nat) ≠ 38 := by decide
  have t2 : (95 : Nat) ≠ 9 := by decide
  have hl : (pl.set j (zAt pl j ++ zs)).length = pl.length := List.length_set
  have ra := row_keptK h.ra k (fun g hg hS => by unfold Jb at hS; subst hS; exact row_ne_blk h.ra hb t1 hg)
  have rs := row_keptK h.rs k (fun g hg hS => by unfold Jb at hS; subst hS; exact row_ne_blk h.rs hb t2 hg)
  refine ⟨by rw [hl]; exact h.l1, by rw [hl]; exact h.l2, by rw [hl]; exact ra, by rw [hl]; exact rs, fun i hi => h.new i (by rw [hl] at hi; exact hi), fun i i' hi hi' => h.dif i i' (by rw [hl] at hi; exact hi) (by rw [hl] at hi'; exact hi'), fun i hi => ?_, h.kp.trans k (fun i hi hS => ?_)⟩
  · rw [hl] at hi
    by_cases he : j = i
    · subst he
      have e1 : zAt (pl.set j (zAt pl j ++ zs)) j = zAt pl j ++ zs := by
        show (pl.set j (zAt pl j ++ zs))[j]?.getD [] = _
        rw [List.getElem?_set_self hj]
        rfl
      rw [e1]
      have e2 : (Sp.init a b).write (zAt pl j ++ zs) = ((Sp.init a b).write (zAt pl j)).write zs := by unfold Sp.write; rw [List.foldl_append]
      rw [e2]
      exact hs
    · have e1 : zAt (pl.set j (zAt pl j ++ zs)) i = zAt pl i := by
        show (pl.set j (zAt pl j ++ zs))[i]?.getD [] = pl[i]?.getD []
        rw [List.getElem?_set_ne he]
      rw [e1]
      refine Blk.kept (h.sums i hi) k (fun hS => he ?_)
      unfold Jb at hS
      exact h.dif j i hj hi hS.symm
  · have := h.new j hj
    unfold Jb at hS
    omega

theorem zAt_set (pl : List (List Int)) (j : Nat) (zs : List Int) (hj : j < pl.length) : zAt (pl.set j zs) j = zs := by
  show (pl.set j zs)[j]?.getD [] = _
  rw [List.getElem?_set_self hj]
  rfl
theorem strs_set (ql : List (List Int)) (j : Nat) (zs : List Int) : strs (ql.set j zs) = (strs ql).set j (.string (st zs)) := by unfold strs; rw [List.map_set]
/-- The string at a place written anew. -/
theorem Many.store {w wr w' : World} {a b : Int} {va vw : Value} {Bs : List Nat} {pl ql : List (List Int)} {j : Nat} {zs : List Int} (h : Many w a b va vw Bs pl ql wr)
    (hr : w'.ownsRow w.heap.size 9 1 vw pl.length ((strs ql).set j (.string (st zs)))) (g : Nat) (hg : vw.ownBlock = some g) (k : Kp (Jb g) wr w') : Many w a b va vw Bs pl (ql.set j zs) w' := by
  have t1 : (38 : Nat) ≠ 9 := by decide
  have t2 : (95 : Nat) ≠ 9 := by decide
  have hlo := h.rs.lt g hg
  refine ⟨h.l1, by rw [List.length_set]; exact h.l2, row_keptK h.ra k (fun x hx hS => ?_), by rw [strs_set]; exact hr, h.new, h.dif, fun i hi => Blk.kept (h.sums i hi) k (fun hS => ?_), h.kp.trans k (fun i hi hS => ?_)⟩
  · unfold Jb at hS; subst hS; exact row_ne_row h.ra h.rs t1 x hx hg
  · unfold Jb at hS; rw [← hS] at hg; exact row_ne_blk h.rs (h.sums i hi) t2 hg
  · unfold Jb at hS; omega
/-- One more sum, and one more string, put behind. -/
theorem Many.more {w wr w' : World} {a b : Int} {va vw va' vw' : Value} {Bs : List Nat} {pl ql : List (List Int)} {zs qs : List Int} {B : Nat} {S : Nat → Prop} (h : Many w a b va vw Bs pl ql wr)
    (ha : w'.ownsRow w.heap.size 38 1 va' (pl.length + 1) (ptrs Bs ++ [.pointer (some ⟨B, 0, none⟩)])) (hr : w'.ownsRow w.heap.size 9 1 vw' (pl.length + 1) (strs ql ++ [.string (st qs)]))
    (hb : SipAt w' B ((Sp.init a b).write zs)) (hB : wr.heap.size ≤ B) (k : Kp S wr w') (hS : ∀ x, S x → va.ownBlock = some x ∨ vw.ownBlock = some x) : Many w a b va' vw' (Bs ++ [B]) (pl ++ [zs]) (ql ++ [qs]) w' := by
  have t1 : (95 : Nat) ≠ 38 := by decide
  have t2 : (95 : Nat) ≠ 9 := by decide
  have hl : (pl ++ [zs]).length = pl.length + 1 := by simp
  have lo : ∀ i, i < pl.length → bAt (Bs ++ [B]) i = bAt Bs i := fun i hi => by unfold bAt; rw [List.getElem?_append_left (by rw [h.l1]; exact hi)]
  have hi0 : bAt (Bs ++ [B]) pl.length = B := by unfold bAt; rw [List.getElem?_append_right (by rw [h.l1]; exact Nat.le_refl _), h.l1, Nat.sub_self]; rfl
  have zlo : ∀ i, i < pl.length → zAt (pl ++ [zs]) i = zAt pl i := fun i hi => by unfold zAt; rw [List.getElem?_append_left hi]
  have zhi : zAt (pl ++ [zs]) pl.length = zs := by unfold zAt; rw [List.getElem?_append_right (Nat.le_refl _), Nat.sub_self]; rfl
  have below : ∀ i, i < pl.length → bAt Bs i < wr.heap.size := fun i hi => Blk.lt (h.sums i hi)
  have hk := h.kp.size
  refine ⟨by rw [List.length_append, h.l1, hl]; rfl, by rw [List.length_append, h.l2, hl]; rfl, ?_, ?_, fun i hi => ?_, fun i i' hi hi' he => ?_, fun i hi => ?_, h.kp.trans k (fun x hx hs => ?_)⟩
  · rw [hl]; unfold ptrs at ha ⊢; rw [List.map_append]; exact ha
  · rw [hl]; unfold strs at hr ⊢; rw [List.map_append]; exact hr
  · rw [hl] at hi
    by_cases hlt : i < pl.length
    · rw [lo i hlt]; exact h.new i hlt
    · obtain rfl : i = pl.length := by omega
      rw [hi0]; omega
  · rw [hl] at hi hi'
    by_cases h1 : i < pl.length
    · by_cases h2 : i' < pl.length
      · rw [lo i h1, lo i' h2] at he; exact h.dif i i' h1 h2 he
      · obtain rfl : i' = pl.length := by omega
        rw [lo i h1, hi0] at he
        have := below i h1
        omega
    · obtain rfl : i = pl.length := by omega
      by_cases h2 : i' < pl.length
      · rw [lo i' h2, hi0] at he
        have := below i' h2
        omega
      · omega
  · rw [hl] at hi
    by_cases hlt : i < pl.length
    · rw [lo i hlt, zlo i hlt]
      refine Blk.kept (h.sums i hlt) k (fun hs => ?_)
      rcases hS _ hs with e | e
      · exact row_ne_blk h.ra (h.sums i hlt) t1 e
      · exact row_ne_blk h.rs (h.sums i hlt) t2 e
    · obtain rfl : i = pl.length := by omega
      rw [hi0, zhi]; exact hb
  · rcases hS _ hs with e | e
    · have := (h.ra.lt _ e).1; omega
    · have := (h.rs.lt _ e).1; omega

end Go.Proofs.Ytfbpaakgifnmaaa
