/-
  Layer 11: walks of Size, Clone, Empty, Cell, From. Conditions: cells are what their kinds hold.
-/
import Derived.Test.YteedceepoindeaaIbA
namespace Go.Proofs.Yteedceepoindeaa
open Go.RowKit

set_option maxRecDepth 10000 in
theorem eq_cells (x y : Cel) (hx : x.2.1.length = 16) (hy : y.2.1.length = 16) (w : World) : Sem.run Try.prog (Op.equalIn 10000 41 (cv x) (cv y)) w = .ok (decide (x = y)) w := by
  obtain ⟨c, m, k⟩ := x
  obtain ⟨c', m', k'⟩ := y
  obtain ⟨m0, m1, m2, m3, m4, m5, m6, m7, m8, m9, m10, m11, m12, m13, m14, m15, rfl⟩ := sixteen m hx
  obtain ⟨n0, n1, n2, n3, n4, n5, n6, n7, n8, n9, n10, n11, n12, n13, n14, n15, rfl⟩ := sixteen m' hy
  clear hx hy
  obtain ⟨b, hb⟩ : ∃ b, decide ([m0, m1, m2, m3, m4, m5, m6, m7, m8, m9, m10, m11, m12, m13, m14, m15] = [n0, n1, n2, n3, n4, n5, n6, n7, n8, n9, n10, n11, n12, n13, n14, n15]) = b := ⟨_, rfl⟩
  have e : Sem.run Try.prog (Op.equalIn 9999 23 (.agg #[.int .u8 m0, .int .u8 m1, .int .u8 m2, .int .u8 m3, .int .u8 m4, .int .u8 m5, .int .u8 m6, .int .u8 m7, .int .u8 m8, .int .u8 m9, .int .u8 m10, .int .u8 m11, .int .u8 m12, .int .u8 m13, .int .u8 m14, .int .u8 m15]) (.agg #[.int .u8 n0, .int .u8 n1, .int .u8 n2, .int .u8 n3, .int .u8 n4, .int .u8 n5, .int .u8 n6, .int .u8 n7, .int .u8 n8, .int .u8 n9, .int .u8 n10, .int .u8 n11, .int .u8 n12, .int .u8 n13, .int .u8 n14, .int .u8 n15])) w = .ok b w := by rw [← hb]; exact run_mark_eqD 9997 [m0, m1, m2, m3, m4, m5, m6, m7, m8, m9, m10, m11, m12, m13, m14, m15] [n0, n1, n2, n3, n4, n5, n6, n7, n8, n9, n10, n11, n12, n13, n14, n15] rfl rfl w
  have hd : decide (((c, [m0, m1, m2, m3, m4, m5, m6, m7, m8, m9, m10, m11, m12, m13, m14, m15], k) : Cel) = (c', [n0, n1, n2, n3, n4, n5, n6, n7, n8, n9, n10, n11, n12, n13, n14, n15], k')) = (decide (c = c') && (b && decide (k = k'))) := by
    rw [← hb]; simp only [Prod.mk.injEq, Bool.decide_and]
  rw [hd]
  clear hb hd
  dsimp only [cv, cellV, cellL, markL, List.map_cons, List.map_nil, List.cons_append, List.nil_append]
  by_cases h1 : c = c'
  · subst h1
    cases b with
    | false => go_simp
    | true =>
      by_cases h2 : k = k'
      · subst h2; go_simp
      · have g : (k == k') = false := beq_eq_false_iff_ne.2 h2
        rw [decide_eq_false h2]
        clear h2
        go_simp
  · have g : (c == c') = false := beq_eq_false_iff_ne.2 h1
    rw [decide_eq_false h1]
    clear h1
    go_simp
theorem exec_neqCell {ev : Operand → Value} {o : Oper} {x y : Operand} {t' : TypeId} {xs ys : Array Value} {b : Bool} {w : World} (ho : o.op = .binOp .neq 41 x y t') (hx : ev x = .agg xs) (hy : ev y = .agg ys)
    (h : Sem.run Try.prog (Op.equal 41 (.agg xs) (.agg ys)) w = .ok b w) : (execOp ev o).run Try.prog w = .ok (.value (.bool (!b))) w := by
  have h1 : Sem.run Try.prog (eqGuard .neq 41 x y (.agg xs) (.agg ys)) w = .ok () w := by go_simp
  have h2 : Sem.run Try.prog (binOp .neq 41 (.agg xs) (.agg ys)) w = .ok (.bool (!b)) w := by
    show Sem.run Try.prog (do pure (Value.bool (! (← Op.equal 41 (.agg xs) (.agg ys))))) w = _
    simp only [Sem.run_bind, Sem.run_pure, Result.andThen_ok, h]
  unfold execOp
  simp only [ho, hx, hy, Sem.run_bind, Sem.run_pure, Result.andThen_ok, h1, h2]

set_option maxHeartbeats 400000 in
theorem size_any (B C : Nat) (cs : List Cel) (w : World) (h : SkAt w B C cs) : Calls Try.prog 14 #[.pointer (some ⟨B, 0, none⟩)] w fun e w' => e = .returned (.int .i64 cs.length) ∧ w = w' := by
  obtain ⟨cap, rest, h1, -⟩ := h.at'
  have c0 := h1.cell 0
  simp only [List.getElem?_cons_zero] at c0
  clear h h1
  go_enter Try.func14, Try.ntmps14
  go_wp2
  go_ret
  exact ⟨rfl, rfl⟩
set_option maxHeartbeats 400000 in
theorem size_nil (w : World) : Calls Try.prog 14 #[.pointer none] w fun e w' => e = .returned (.int .i64 0) ∧ w = w' := by
  go_enter Try.func14, Try.ntmps14
  go_wp2
  go_ret
  exact ⟨rfl, rfl⟩
theorem SkAt.sl {w : World} {B C : Nat} {cs : List Cel} (h : SkAt w B C cs) : ∃ cap, Blk w B 77 [.slice (some ⟨C, 0, none⟩) cs.length cap] ∧ RowsSl cl c0 18 w (.slice (some ⟨C, 0, none⟩) cs.length cap) cs := by
  obtain ⟨cap, rest, h1, h2, h3, h4⟩ := h.at'
  refine ⟨cap, h1, .inr ⟨C, 0, cap, rfl, h3, h4, fun i hi => ?_⟩⟩
  rw [Nat.zero_add]
  exact flat_range h2 h.ok.len i hi (cl_length (h.ok.at i))
/-- A new sketch out of a block of cells. -/
theorem SkAt.mk' {w : World} {g cap : Nat} {cs : List Cel} {rest : List Value} (ho : AllOk cs) (hp : 0 < cs.length) (h : Blk w g 41 (rws cs ++ rest)) (hn : cs.length ≤ cap) (hm : cap ≤ maxLen) :
    SkAt (w.alloc (.cells #[.slice (some ⟨g, 0, none⟩) cs.length cap] 77)) w.heap.size g cs :=
  ⟨ho, ⟨cap, rest, Blk.new w 77 [.slice (some ⟨g, 0, none⟩) cs.length cap], h.alloc _, hn, hm⟩, hp, by have := h.lt; omega⟩
set_option maxHeartbeats 800000 in
theorem kclone_any (B C : Nat) (cs : List Cel) (w : World) (h : SkAt w B C cs) (hbig : cs.length ≤ 100000) :
    Calls Try.prog 22 #[.pointer (some ⟨B, 0, none⟩)] w fun e w' => ∃ B' C', e = .returned (.pointer (some ⟨B', 0, none⟩)) ∧ SkAt w' B' C' cs ∧ w.heap.size ≤ B' ∧ w.heap.size ≤ C' ∧ Kp Nb w w' := by
  obtain ⟨cap, h1, hs⟩ := h.sl
  have c0 := h1.cell 0
  simp only [List.getElem?_cons_zero] at c0
  have CC := hid (sclone_any _ cs w hs h.ok h.pos hbig)
  have HO := hid h.ok
  have HP := hid h.pos
  clear h h1 hs hbig
  go_enter Try.func22, Try.ntmps22
  go_wp2_with fail
  refine CC.out.mono ?_
  rintro e w1 ⟨g, cp, rest, rfl, hg, hb, hn, hm, k1⟩
  have HS := hid (SkAt.mk' HO.out HP.out hb hn hm)
  have K1 := hid (k1.alloc (.cells #[.slice (some ⟨g, 0, none⟩) cs.length cp] 77))
  have L1 := hid k1.size
  have HG := hid hg
  clear hg hb k1 hn hm
  go_wp2
  go_ret
  exact ⟨_, g, rfl, HS.out, L1.out, HG.out, K1.out⟩
set_option maxHeartbeats 400000 in
theorem kclone_nil (w : World) : Calls Try.prog 22 #[.pointer none] w fun e w' => e = .returned (.pointer none) ∧ w = w' := by
  go_enter Try.func22, Try.ntmps22
  go_wp2
  go_ret
  exact ⟨rfl, rfl⟩

def emptyB (cs : List Cel) : Bool := cs.all fun x => decide (x = c0)
def EmpR (cs : List Cel) (w : World) (i : Value) (wr : World) : Prop := ∃ k : Nat, k ≤ cs.length ∧ i = .int .i64 k ∧ Hid (emptyB (cs.take k) = true) ∧ Hid (w = wr)
theorem emptyB_snoc (cs : List Cel) (k : Nat) (h : k < cs.length) : emptyB (cs.take (k + 1)) = (emptyB (cs.take k) && decide (celAt cs k = c0)) := by
  unfold emptyB celAt
  rw [List.take_succ_eq_append_getElem h, List.all_append, List.getElem?_eq_getElem h]
  simp
theorem emptyB_take {cs : List Cel} {k : Nat} (h : emptyB (cs.take k) = false) : emptyB cs = false := by
  cases hc : emptyB cs with
  | false => rfl
  | true =>
    have : emptyB (cs.take k) = true := by
      unfold emptyB at hc ⊢
      rw [List.all_eq_true] at hc ⊢
      exact fun x hx => hc x (List.mem_of_mem_take hx)
    rw [h] at this
    cases this
set_option maxRecDepth 100000 in
set_option maxHeartbeats 1000000 in
theorem empty_any (B C : Nat) (cs : List Cel) (w : World) (h : SkAt w B C cs) (hbig : cs.length ≤ 100000) :
    Calls Try.prog 15 #[.pointer (some ⟨B, 0, none⟩)] w fun e w' => e = .returned (.bool (emptyB cs)) ∧ Kp Nb w w' := by
  obtain ⟨cap, h1, hs⟩ := h.sl
  have cB := h1.cell 0
  simp only [List.getElem?_cons_zero] at cB
  have CS := hid (size_any B C cs w h)
  have HO := hid h.ok
  have HB := hid hbig
  rcases hs with ⟨_, he⟩ | ⟨blk, off, cap', e1, hc, hm, hcell⟩
  · have := h.pos; rw [he] at this; simp at this
  injection e1 with e1 e2 e3
  injection e1 with e1
  injection e1 with e1 e4 e5
  subst e1 e4 e3
  have HC := hid hcell
  unfold maxLen at hm
  clear h h1 hcell hbig e5 e2
  go_enter Try.func15, Try.ntmps15
  go_wp2_with fail
  refine CS.out.mono ?_
  rintro e w1 ⟨rfl, rfl⟩
  go_wp2
  go_loopw [6] (EmpR cs w) (fun i _ => cs.length - (intOf i).toNat)
  case atStart => exact ⟨0, by omega, rfl, hid rfl, hid rfl⟩
  case round =>
    obtain ⟨k, hk, rfl, HE, HW⟩ := hrel
    obtain rfl := HW.out
    by_cases hlt : k < cs.length
    · have HR := hid (show w.rangeAt C (0 + k * 18) (cl (celAt cs k)) from HC.out k hlt)
      have hsn := emptyB_snoc cs k hlt
      rw [HE.out, Bool.true_and] at hsn
      have HSN := hid hsn
      have EQ := hid (eq_cells (celAt cs k) c0 (HO.out.at k).mark.len rfl w)
      have CI := hid (cell_infoL (celAt cs k).1 (celAt cs k).2.1 (celAt cs k).2.2 (HO.out.at k).mark.len)
      generalize celAt cs k = x at HR HSN EQ CI
      obtain ⟨du, hu, hd⟩ := cell_under
      have HU := hid hu
      obtain ⟨b, hb⟩ : ∃ b, decide (x = c0) = b := ⟨_, rfl⟩
      rw [hb] at HSN EQ
      rw [Nat.zero_add] at HR
      clear hsn hu hb
      cases b with
      | true =>
        have RE := hid (show EmpR cs w (.int .i64 ((k : Int) + 1)) w from ⟨k + 1, by omega, by go_num, HSN, hid rfl⟩)
        go_wp2_with (first
          | (refine wpList_load_mid (by rfl) 41 (.tmp 14) (by rfl) C (k * 18) (by rfl) (cl x) du HR.out HU.out hd CI.out ?_)
          | (refine wpList_val (by rfl) (.bool (!true)) _ (exec_neqCell rfl (by rfl) (by rfl) EQ.out) ?_))
        exact ⟨RE.out, by simp [intOf]; omega⟩
      | false =>
        go_wp2_with (first
          | (refine wpList_load_mid (by rfl) 41 (.tmp 14) (by rfl) C (k * 18) (by rfl) (cl x) du HR.out HU.out hd CI.out ?_)
          | (refine wpList_val (by rfl) (.bool (!false)) _ (exec_neqCell rfl (by rfl) (by rfl) EQ.out) ?_))
        go_ret
        exact ⟨by rw [emptyB_take HSN.out]; rfl, Kp.refl _ _⟩
    · obtain rfl : k = cs.length := by omega
      have hE := HE.out
      rw [List.take_length] at hE
      have HE2 := hid hE
      clear hE HE
      go_wp2
      go_ret
      exact ⟨by rw [HE2.out]; rfl, Kp.refl _ _⟩
set_option maxRecDepth 100000 in
set_option maxHeartbeats 400000 in
theorem empty_nil (w : World) : Calls Try.prog 15 #[.pointer none] w fun e w' => e = .returned (.bool true) ∧ Kp Nb w w' := by
  go_enter Try.func15, Try.ntmps15
  go_wp2_with fail
  refine (size_nil _).mono ?_
  rintro e w1 ⟨rfl, rfl⟩
  go_wp2
  go_loopw [6] (fun i wr => i = .int .i64 0 ∧ Hid (w = wr)) (fun _ _ => 0)
  case atStart => exact ⟨rfl, hid rfl⟩
  case round =>
    obtain ⟨rfl, HW⟩ := hrel
    obtain rfl := HW.out
    go_wp2
    go_ret
    exact ⟨rfl, Kp.refl _ _⟩

end Go.Proofs.Yteedceepoindeaa
