/-
  Layer 1: two rows that are appended to side by side, and the sum that is cloned into the one: what stays. No condition.
-/
import Derived.Test.YtfbpaakgifnmaaaSipH
import Derived.Test.YtfbpaakgifnmaaaMov
namespace Go.Proofs.Ytfbpaakgifnmaaa
open Go.RowKit

theorem info_sipp : (Try.prog.info? 38).map (fun i => (i.zero, i.size, i.bytes)) = some (some (.pointer none), 1, 8) := by kernel_rfl
theorem info_strg : (Try.prog.info? 9).map (fun i => (i.zero, i.size, i.bytes)) = some (some (.string (st [])), 1, 16) := by kernel_rfl
theorem sipclone_at (B : Nat) (s : Sp) (w : World) (hs : SipAt w B s) :
    Calls Try.prog 23 #[.pointer (some ⟨B, 0, none⟩)] w fun e w' => ∃ C, e = .returned (.pointer (some ⟨C, 0, none⟩)) ∧ w.heap.size ≤ C ∧ SipAt w' C s ∧ Kp Nb w w' :=
  (sipclone_any B s w hs).mono fun _ _ ⟨h1, h2, h3⟩ => ⟨w.heap.size, h1, Nat.le_refl _, h2, h3⟩

theorem zAt_snoc (pl : List (List Int)) (x : List Int) (j : Nat) : zAt (pl ++ [x]) j = zAt pl j ∨ zAt (pl ++ [x]) j = x := by
  unfold zAt
  by_cases h : j < pl.length
  · left
    rw [List.getElem?_append_left h]
  · by_cases h2 : j = pl.length
    · right
      subst h2
      rw [List.getElem?_append_right (Nat.le_refl _), Nat.sub_self]
      rfl
    · left
      rw [List.getElem?_eq_none (by simp; omega), List.getElem?_eq_none (by omega)]
theorem hkp_drew {S : Nat → Prop} {w w' : World} (h : Hid (Kp S w w')) : Hid (Kp S w w'.drew) := h.out.drew
theorem hkp_drewN {S : Nat → Prop} {w w' : World} (n : Nat) (h : Hid (Kp S w w')) : Hid (Kp S w (w'.drewN n)) := h.out.drewN n
theorem hkp_alloc {S : Nat → Prop} {w w' : World} (o : Obj) (h : Hid (Kp S w w')) : Hid (Kp S w (w'.alloc o)) := h.out.alloc o
theorem hkp_trans {S : Nat → Prop} {w w' w'' : World} (h : Hid (Kp S w w')) (k : Kp S w' w'') : Hid (Kp S w w'') := h.out.trans k (fun _ _ h => h)
theorem four_held {wm w' : World} {p1 p2 p3 p4 : Addr} {v1 v2 v3 v4 : Value} (h1 : Hid (wm.cell? p1 = some v1)) (h2 : Hid (wm.cell? p2 = some v2)) (h3 : Hid (wm.cell? p3 = some v3)) (h4 : Hid (wm.cell? p4 = some v4)) (k : Hid (Kp Nb wm w')) :
    Hid (Kp Nb wm w') ∧ w'.cell? p1 = some v1 ∧ w'.cell? p2 = some v2 ∧ w'.cell? p3 = some v3 ∧ w'.cell? p4 = some v4 :=
  ⟨k, k.out.cell h1.out (fun h => h), k.out.cell h2.out (fun h => h), k.out.cell h3.out (fun h => h), k.out.cell h4.out (fun h => h)⟩
structure Duo (wz : World) (base ga gw n ca cw : Nat) (xs ys : List Value) (BJ : Nat) (s : Sp) (w : World) : Prop where
  ra : w.ownsRow base 38 1 (.slice (some ⟨ga, 0, none⟩) n ca) n xs
  rs : w.ownsRow base 9 1 (.slice (some ⟨gw, 0, none⟩) n cw) n ys
  sip : SipAt w BJ s
  kp : Kp (fun x => x = ga ∨ x = gw) wz w
section
variable {wz : World} {base ga gw n ca cw : Nat} {xs ys : List Value} {BJ : Nat} {s : Sp} {w w' : World}
theorem Duo.keptN (h : Duo wz base ga gw n ca cw xs ys BJ s w) (k : Kp Nb w w') : Duo wz base ga gw n ca cw xs ys BJ s w' :=
  ⟨row_keptN k h.ra, row_keptN k h.rs, Blk.kept h.sip k (fun h => h), h.kp.trans k (fun _ _ h => h.elim)⟩
theorem Duo.alloc (h : Duo wz base ga gw n ca cw xs ys BJ s w) (o : Obj) : Duo wz base ga gw n ca cw xs ys BJ s (w.alloc o) := h.keptN ((Kp.refl Nb w).alloc o)
theorem Duo.drew (h : Duo wz base ga gw n ca cw xs ys BJ s w) : Duo wz base ga gw n ca cw xs ys BJ s w.drew := h.keptN ((Kp.refl Nb w).drew)
theorem Duo.cellA (h : Duo wz base ga gw n ca cw xs ys BJ s w) {J : Nat} {u : Value} (hJ : J < n) (hu : xs[J]? = some u) : w.cell? ⟨ga, J, none⟩ = some u := (h.ra.cellAt J (by rw [Nat.mul_one]; exact hJ)).trans hu
theorem Duo.cellW (h : Duo wz base ga gw n ca cw xs ys BJ s w) {J : Nat} {u : Value} (hJ : J < n) (hu : ys[J]? = some u) : w.cell? ⟨gw, J, none⟩ = some u := (h.rs.cellAt J (by rw [Nat.mul_one]; exact hJ)).trans hu
theorem Duo.appA (h : Duo wz base ga gw n ca cw xs ys BJ s w) (g : w.grownBy w' (some ga)) (ho : w'.ownsRow base 38 1 (.slice (some ⟨ga, 0, none⟩) n ca) n xs) : Duo wz base ga gw n ca cw xs ys BJ s w' := by
  have m := hid (Mv.ofGrown h.ra g)
  exact ⟨ho, Mv.row m (by decide) h.rs, Mv.blk m (by decide) h.sip, h.kp.grown g (fun k hk _ => .inl (by injection hk with hk; exact hk.symm))⟩
theorem Duo.appW (h : Duo wz base ga gw n ca cw xs ys BJ s w) (g : w.grownBy w' (some gw)) (ho : w'.ownsRow base 9 1 (.slice (some ⟨gw, 0, none⟩) n cw) n ys) : Duo wz base ga gw n ca cw xs ys BJ s w' := by
  have m := hid (Mv.ofGrown h.rs g)
  exact ⟨Mv.row m (by decide) h.ra, ho, Mv.blk m (by decide) h.sip, h.kp.grown g (fun k hk _ => .inr (by injection hk with hk; exact hk.symm))⟩
theorem Duo.low (h : Duo wz base ga gw n ca cw xs ys BJ s w) (hb : base ≤ wz.heap.size) : base ≤ w.heap.size := Nat.le_trans hb h.kp.size
theorem duo_sip (h : Hid (Duo wz base ga gw n ca cw xs ys BJ s w)) : SipAt w BJ s := h.out.sip
theorem duo_ra (h : Hid (Duo wz base ga gw n ca cw xs ys BJ s w)) : w.ownsRow base 38 1 (.slice (some ⟨ga, 0, none⟩) n ca) n xs := h.out.ra
theorem duo_rs (h : Hid (Duo wz base ga gw n ca cw xs ys BJ s w)) : w.ownsRow base 9 1 (.slice (some ⟨gw, 0, none⟩) n cw) n ys := h.out.rs
theorem duo_low (h : Hid (Duo wz base ga gw n ca cw xs ys BJ s w)) (hb : Hid (base ≤ wz.heap.size)) : base ≤ w.heap.size := h.out.low hb.out
theorem duo_low2 (h : Hid (Duo wz base ga gw n ca cw xs ys BJ s w)) {C : Nat} (hb : w.heap.size ≤ C) : wz.heap.size ≤ C := Nat.le_trans h.out.kp.size hb
theorem duo_keptN (h : Hid (Duo wz base ga gw n ca cw xs ys BJ s w)) (k : Kp Nb w w') : Hid (Duo wz base ga gw n ca cw xs ys BJ s w') := h.out.keptN k
theorem duo_appA (h : Hid (Duo wz base ga gw n ca cw xs ys BJ s w)) (g : w.grownBy w' (some ga)) (ho : w'.ownsRow base 38 1 (.slice (some ⟨ga, 0, none⟩) n ca) n xs) : Hid (Duo wz base ga gw n ca cw xs ys BJ s w') := h.out.appA g ho
theorem duo_appW (h : Hid (Duo wz base ga gw n ca cw xs ys BJ s w)) (g : w.grownBy w' (some gw)) (ho : w'.ownsRow base 9 1 (.slice (some ⟨gw, 0, none⟩) n cw) n ys) : Hid (Duo wz base ga gw n ca cw xs ys BJ s w') := h.out.appW g ho
theorem duo_mvA (h : Hid (Duo wz base ga gw n ca cw xs ys BJ s w)) (g : w.grownBy w' (some ga)) : Hid (Mv 38 w w') := Mv.ofGrown h.out.ra g
theorem duo_mvW (h : Hid (Duo wz base ga gw n ca cw xs ys BJ s w)) (g : w.grownBy w' (some gw)) : Hid (Mv 9 w w') := Mv.ofGrown h.out.rs g
theorem duo_drew (h : Hid (Duo wz base ga gw n ca cw xs ys BJ s w)) : Hid (Duo wz base ga gw n ca cw xs ys BJ s w.drew) := h.out.drew
theorem duo_alloc (o : Obj) (h : Hid (Duo wz base ga gw n ca cw xs ys BJ s w)) : Hid (Duo wz base ga gw n ca cw xs ys BJ s (w.alloc o)) := h.out.alloc o
theorem duo_kp (h : Hid (Duo wz base ga gw n ca cw xs ys BJ s w)) : Kp (fun x => x = ga ∨ x = gw) wz w := h.out.kp
theorem duo_held {J : Nat} {u v : Value} (h : Hid (Duo wz base ga gw n ca cw xs ys BJ s w)) (hJ : Hid (J < n)) (hu : Hid (xs[J]? = some u)) (hv : Hid (ys[J]? = some v)) :
    Hid (Duo wz base ga gw n ca cw xs ys BJ s w) ∧ w.cell? ⟨ga, J, none⟩ = some u ∧ w.cell? ⟨gw, J, none⟩ = some v := ⟨h, h.out.cellA hJ.out hu.out, h.out.cellW hJ.out hv.out⟩
end

end Go.Proofs.Ytfbpaakgifnmaaa
