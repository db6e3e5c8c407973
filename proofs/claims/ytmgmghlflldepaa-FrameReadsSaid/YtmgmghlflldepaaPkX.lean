/-
  Arguments opened: a frame, a list of frames, a case of layer 19. No condition.
  Layer 19: the law FrameAll. Conditions: bytes; ints.
-/
import Derived.Test.YtmgmghlflldepaaPkR
import Derived.Test.YtmgmghlflldepaaOpenBy
import Derived.Test.YtmgmghlflldepaaOpenRows
import Derived.Test.YtmgmghlflldepaaPkW
namespace Go.Proofs.Ytmgmghlflldepaa
open Go.ChangeShapes Go.WideShapes Go.ChangeAt Go.RowKit

section
variable {H : Type} {enc : TypeId × Value → H} {W : World} {fuel : Nat} {cs : List Value} {x : DataW H × List MemPlace}
theorem open_bytes_cs {v : Value} (hf : DataW.trod enc Try.prog W 0 (fun _ => true) true fuel 22 [v] = some x) : ∃ zs, BySl Nb W v zs := by
  rcases open_ints Try.underlying22 Try.underlying5 cells_byte hf with ⟨hcs, _⟩ | ⟨y, l, c, zs, hcs, _, hl, hm, hz, _, hcell, hwz⟩
  · simp only [List.cons.injEq, and_true] at hcs
    subst hcs
    exact ⟨[], fun i => by simp, .inl ⟨⟨_, _, rfl⟩, rfl⟩⟩
  · simp only [List.cons.injEq, and_true] at hcs
    subst hcs
    have hz' : zs.length = c := by simpa using hz
    by_cases hn : l = 0
    · subst hn
      exact ⟨[], fun i => by simp, .inl ⟨⟨_, _, rfl⟩, rfl⟩⟩
    · obtain ⟨blk, off, spot⟩ := y
      have hspot : spot = none := by
        have := World.cell?_spot (hcell 0 (by omega))
        simpa [Addr.add] using this
      subst hspot
      have elen : (zs.take l).length = l := by simp; omega
      refine ⟨zs.take l, fun i => ?_, .inr ⟨blk, off, c, by rw [elen], by omega, hm, fun i hi => ?_, fun _ h => h⟩⟩
      · have hr := range_u8 (zs := zs.take l) (fun n hn => hwz n (List.mem_of_mem_take hn)) i
        omega
      · rw [elen] at hi
        have := hcell i (by omega)
        rw [add_none] at this
        rw [List.getElem?_take_of_lt hi]
        simpa [List.getD] using this
abbrev FrV := Int × Value
def FrOk (W : World) (q : FrV) : Prop := (-9223372036854775808 ≤ q.1 ∧ q.1 < 9223372036854775808) ∧ ∃ zs, BySl Nb W q.2 zs
theorem cells_frame : Try.prog.cellsOf 24 = 2 := by kernel_rfl
theorem cells_intf : Try.prog.cellsOf 3 = 1 := by kernel_rfl
theorem wff_i64 {z : Int} (h : (Lit.int .i64 z).wf = true) : -9223372036854775808 ≤ z ∧ z < 9223372036854775808 := by
  simp [Lit.wf] at h
  have hmin : IntKind.i64.min = -9223372036854775808 := by decide
  have hmax : IntKind.i64.max = 9223372036854775807 := by decide
  omega
theorem open_frame {d : DataW H × List MemPlace} (hf : DataW.trod enc Try.prog W 0 (fun _ => true) true fuel 24 cs = some d) : ∃ q : FrV, FrOk W q ∧ cs = frL q.1 q.2 := by
  obtain ⟨xs, k, _, _, hl, hxl, hfs⟩ := DataW.trod_struct Try.underlying24 hf
  rw [cells_frame] at hl
  match cs, hl with
  | [c0, c1], _ =>
    match xs, hxl with
    | [y0, y1], _ =>
      have g0 := hfs 0 _ rfl
      have g1 := hfs 1 _ rfl
      simp [cells_intf, cells_bytes] at g0 g1
      obtain ⟨N, hN, hw⟩ := DataW.trod_int Try.underlying3 g0
      obtain ⟨zs, hz⟩ := open_bytes_cs g1
      simp only [List.cons.injEq, and_true] at hN
      subst hN
      exact ⟨(N, c1), ⟨wff_i64 hw.2, zs, hz⟩, rfl⟩
end
theorem array_of_2 {α : Type} {cs : Array α} (h : cs.size = 2) : ∃ c0 c1, cs = #[c0, c1] := by
  obtain ⟨l⟩ := cs
  match l, h with
  | [c0, c1], _ => exact ⟨c0, c1, rfl⟩
theorem array_of_7 {α : Type} {cs : Array α} (h : cs.size = 7) : ∃ c0 c1 c2 c3 c4 c5 c6, cs = #[c0, c1, c2, c3, c4, c5, c6] := by
  obtain ⟨l⟩ := cs
  match l, h with
  | [c0, c1, c2, c3, c4, c5, c6], _ => exact ⟨c0, c1, c2, c3, c4, c5, c6, rfl⟩
set_option maxRecDepth 100000 in
theorem open_framev {H : Type} {enc : TypeId × Value → H} {W : World} {base : Nat} {v : Value} {d : DataW H} {p : List MemPlace} (hv : Value.okWide Try.prog W .any base 24 v)
    (h : DataW.Trod enc Try.prog W 0 (fun _ => true) true 24 v d p) : ∃ q : FrV, FrOk W q ∧ v = frV q.1 q.2 := by
  obtain ⟨cs, rfl, hsz⟩ := okWide_struct Try.underlying24 hv
  obtain ⟨c0, c1, rfl⟩ := array_of_2 (hsz.trans cells_frame)
  obtain ⟨fuel, hf⟩ := h
  obtain ⟨q, hq, e⟩ := open_frame (cs := [c0, c1]) hf
  refine ⟨q, hq, ?_⟩
  injection e with e1 e2
  injection e2 with e2
  rw [e1, e2]
set_option maxRecDepth 100000 in
theorem open_fcase {H : Type} {enc : TypeId × Value → H} {W : World} {base : Nat} {v : Value} {d : DataW H} {p : List MemPlace} (hv : Value.okWide Try.prog W .any base 39 v)
    (h : DataW.Trod enc Try.prog W 0 (fun _ => true) true 39 v d p) :
    ∃ (vb vf : Value) (more zs : List Int) (k m a c x : Int), v = caseV vb k vf m a c x ∧ BySl Nb W vb more ∧ BySl Nb W vf zs ∧ (-9223372036854775808 ≤ a ∧ a < 9223372036854775808) ∧ (-9223372036854775808 ≤ m ∧ m < 9223372036854775808) ∧ (0 ≤ c ∧ c < 65536) ∧ (0 ≤ x ∧ x < 256) := by
  have ek : Try.prog.cellsOf 39 = 7 := by kernel_rfl
  have e16 : Try.prog.cellsOf 37 = 1 := by kernel_rfl
  obtain ⟨cs, rfl, hsz⟩ := okWide_struct Try.underlying39 hv
  obtain ⟨c0, c1, c2, c3, c4, c5, c6, rfl⟩ := array_of_7 (hsz.trans ek)
  obtain ⟨fuel, hf⟩ := h
  obtain ⟨xs, k, _, _, _, hxl, hfs⟩ := DataW.trod_struct Try.underlying39 hf
  match xs, hxl with
  | [y0, y1, y2, y3, y4, y5], _ =>
    have g0 := hfs 0 _ rfl
    have g1 := hfs 1 _ rfl
    have g2 := hfs 2 _ rfl
    have g3 := hfs 3 _ rfl
    have g4 := hfs 4 _ rfl
    have g5 := hfs 5 _ rfl
    simp [Value.cells, cells_intf, cells_bytes, cells_frame, e16, cells_byte] at g0 g1 g2 g3 g4 g5
    obtain ⟨more, hb⟩ := open_bytes_cs g0
    obtain ⟨q, hq, e⟩ := open_frame g1
    obtain ⟨M, hM, hw2⟩ := DataW.trod_int Try.underlying3 g2
    obtain ⟨A, hA, hw3⟩ := DataW.trod_int Try.underlying3 g3
    obtain ⟨C, hC, hw4⟩ := DataW.trod_int Try.underlying37 g4
    obtain ⟨X, hX, hw5⟩ := DataW.trod_int Try.underlying5 g5
    simp only [List.cons.injEq, and_true] at hM hA hC hX e
    obtain ⟨e1, e2⟩ := e
    obtain ⟨-, zs, hz⟩ := hq
    subst hM hA hC hX e1 e2
    have w4 := hw4.2
    have w5 := hw5.2
    simp [Lit.wf] at w4 w5
    have h1 : IntKind.u16.min = 0 := by decide
    have h2 : IntKind.u16.max = 65535 := by decide
    have h3 : IntKind.u8.min = 0 := by decide
    have h4 : IntKind.u8.max = 255 := by decide
    exact ⟨c0, _, more, zs, _, M, A, C, X, rfl, hb, hz, wff_i64 hw3.2, wff_i64 hw2.2, by omega, by omega⟩
set_option maxRecDepth 100000 in
theorem open_framesv {H : Type} {enc : TypeId × Value → H} {W : World} {base : Nat} {v : Value} {d : DataW H} {p : List MemPlace} (hv : Value.okWide Try.prog W .any base 41 v)
    (h : DataW.Trod enc Try.prog W 0 (fun _ => true) true 41 v d p) : ∃ qs : List FrV, (∀ q ∈ qs, FrOk W q) ∧ RowsSl (fun q : FrV => frL q.1 q.2) (0, .slice none 0 0) 2 W v qs := by
  obtain ⟨x, n, c, rfl⟩ := okWide_slice Try.underlying41 hv
  obtain ⟨fuel, hf⟩ := h
  exact open_rows (fun q : FrV => frL q.1 q.2) (0, .slice none 0 0) (FrOk W) 2 cells_frame (by decide) (fun _ _ _ h => open_frame h) Try.underlying41 hf

end Go.Proofs.Ytmgmghlflldepaa

namespace Go.Proofs.Ytmgmghlflldepaa
open Go.RowKit Go.Shelf
attribute [local go_sem] Oper.semAt_some

theorem rnext_any (zs : List Int) (w : World) (hz : IsBytes zs) (hl : zs.length ≤ 100000) : Calls Try.prog 17 #[.string (st zs)] w fun e w' => ∃ b, e = .returned (.tuple #[frV (nextF zs).1 b, .int .i64 (nextF zs).2.2.1, .int .i64 (nextF zs).2.2.2]) ∧ BySl Nb w' b (nextF zs).2.1 ∧ Kp Nb w w' := by
  rw [← rn_eq zs hz]
  by_cases h0 : zs = []
  · subst h0; exact rnext_nil w
  · by_cases hx : zs[0]?.getD 0 = 71
    · exact rnext_71 zs w hz h0 hx hl
    · exact rnext_not zs w hz h0 hx
theorem by_pos {w : World} {v : Value} {zs : List Int} (h : BySl Nb w v zs) {n : Nat} (hl : zs.length = n) (hn : 0 < n) : ∃ blk off cap, v = .slice (some ⟨blk, off, none⟩) n cap ∧ n ≤ cap ∧ cap ≤ maxLen ∧ ∀ i, i < n → w.cell? ⟨blk, off + i, none⟩ = some (.int .u8 (zs[i]?.getD 0)) := by
  subst hl
  rcases h.2 with ⟨-, rfl⟩ | ⟨blk, off, cap, e, h1, h2, h3, -⟩
  · simp at hn
  · exact ⟨blk, off, cap, e, h1, h2, h3⟩
def AlR (w2 : World) (zs : List Int) (nx : Nat) (p i : Value) (wr : World) : Prop := ∃ n : Nat, n ≤ nx ∧ i = .int .i64 n ∧ p = .int .i64 (atF zs n) ∧ Hid (Kp Nb w2 wr)

set_option maxRecDepth 100000 in
set_option maxHeartbeats 32000000 in
theorem fallLaw_any (vb vf : Value) (zs : List Int) (k m a c x : Int) (w : World) (hb : BySl Nb w vb zs) (hx : 0 ≤ x ∧ x < 256) :
    Calls Try.prog 4 #[caseV vb k vf m a c x] w fun e w' => e = .returned (.bool true) ∧ Kp Nb w w' := by
  obtain ⟨yb, db, rfl⟩ := hb.shp
  obtain ⟨nb, hnb⟩ : ∃ n, zs.length = n := ⟨_, rfl⟩
  rw [hnb] at hb ⊢
  have HNB := hid hnb
  have HZ := hid hb.1
  have HX := hid hx
  obtain ⟨D, hD⟩ : ∃ D, w.heap.size = D := ⟨_, rfl⟩
  obtain ⟨W, hW⟩ : ∃ W, W = w.alloc (.cells (caseL (.slice yb nb db) k vf m a c x).toArray 39) := ⟨_, rfl⟩
  have H0 : Hid (Blk W D 39 (caseL (.slice yb nb db) k vf m a c x)) := hid (by rw [hW, ← hD]; exact Blk.new w _ _)
  have k0 : Kp Nb w W := by rw [hW]; exact (Kp.refl Nb w).alloc _
  have K0 := hid k0
  have HB0 := hid (hb.kept k0 (fun _ h => h))
  clear hb hnb k0 hx
  go_enter Try.func4, Try.ntmps4
  go_upto_region 1 with fail
  rw [show w.alloc (.cells #[.slice yb nb db, .int .i64 k, vf, .int .i64 m, .int .i64 a, .int .u16 c, .int .u8 x] 39) = W from hW.symm]
  clear hW hD
  go_wp2_with fail
  refine (ffirst_any _).mono ?_
  rintro e w1 ⟨rfl, k1⟩
  have H1 := hid (H0.out.kept k1 (fun h => h))
  have HB1 := hid (HB0.out.kept k1 (fun _ h => h))
  have K1 := hid (K0.out.trans k1 (fun _ _ h => h))
  clear k1 H0 HB0 K0
  go_upto_region 3 with fail
  refine region_vals2 [none, none, none, some 8, some 9, some 10, some 11, none, none, none, none, none, none, none, none, none, none, none, none, some 0, some 1, some 2, some 3, some 4, some 5, some 6, some 7, none, none, none, none, none, none, none, none, none, none, none, none, none, none, none, none, none, none, none, none, none, none, none, none, none, none, none, none, none, none, none, none, none, none, none, none, none, none, none, none, none, none, none, none, none, none, none, none, none, none, none, none, none, none, none, none, none, none, none, none, none, none, none, none, none, none, none, none, none, none, none, none, none, none, none, none, none, none, none, none, none, none, none, none, none, none, none, none, none, none, none, none, none, none, none, none, none, none, none, none, none, none, none, none, none, none, none, none, none, none, none] [[(1, none)], [(19, some 0)], [(1, none)], [(21, some 2)], [(1, none)], [(23, some 4)], [(1, none)], [(25, some 6)], [(20, some 1)], [(22, some 3)], [(24, some 5)], [(26, some 7)]] [some 19, some 20, some 21, some 22, some 23, some 24, some 25, some 26, some 3, some 4, some 5, some 6] [.pointer (some ⟨D, 0, none⟩), .slice yb nb db, .pointer (some ⟨D, 3, none⟩), .int .i64 m, .pointer (some ⟨D, 4, none⟩), .int .i64 a, .pointer (some ⟨D, 6, none⟩), .int .u8 x, .slice yb nb db, .int .i64 m, .int .i64 a, .int .u8 x] (fun w' => Hid (Kp Nb w1 w')) (by kernel_rfl) (by kernel_rfl) (by kernel_rfl) ?hS (VFrom.all (n := 12) (by kernel_rfl) ?hstep) ?hend
  case hstep =>
    refine VFrom.cons (VStep.val _ rfl _ rfl (.pointer (some ⟨D, 0, none⟩)) rfl trivial (fun ev wq hS he hr => ?_)) ?_
    · have r0 : ev (.tmp 1) = .pointer (some ⟨D, 0, none⟩) := hr (1, none) (by simp); have hk := he.1; clear hr he
      go_simp
    refine VFrom.cons (VStep.val _ rfl _ rfl (.slice yb nb db) rfl trivial (fun ev wq hS he hr => ?_)) ?_
    · have r0 : ev (.tmp 19) = .pointer (some ⟨D, 0, none⟩) := hr (19, some 0) (by simp); have hk := he.1; clear hr he
      have c0 := (H1.out.kept hS.out (fun h => h)).cell 0
      go_simp
    refine VFrom.cons (VStep.val _ rfl _ rfl (.pointer (some ⟨D, 3, none⟩)) rfl trivial (fun ev wq hS he hr => ?_)) ?_
    · have r0 : ev (.tmp 1) = .pointer (some ⟨D, 0, none⟩) := hr (1, none) (by simp); have hk := he.1; clear hr he
      go_simp
    refine VFrom.cons (VStep.val _ rfl _ rfl (.int .i64 m) rfl trivial (fun ev wq hS he hr => ?_)) ?_
    · have r0 : ev (.tmp 21) = .pointer (some ⟨D, 3, none⟩) := hr (21, some 2) (by simp); have hk := he.1; clear hr he
      have c0 := (H1.out.kept hS.out (fun h => h)).cell 3
      go_simp
    refine VFrom.cons (VStep.val _ rfl _ rfl (.pointer (some ⟨D, 4, none⟩)) rfl trivial (fun ev wq hS he hr => ?_)) ?_
    · have r0 : ev (.tmp 1) = .pointer (some ⟨D, 0, none⟩) := hr (1, none) (by simp); have hk := he.1; clear hr he
      go_simp
    refine VFrom.cons (VStep.val _ rfl _ rfl (.int .i64 a) rfl trivial (fun ev wq hS he hr => ?_)) ?_
    · have r0 : ev (.tmp 23) = .pointer (some ⟨D, 4, none⟩) := hr (23, some 4) (by simp); have hk := he.1; clear hr he
      have c0 := (H1.out.kept hS.out (fun h => h)).cell 4
      go_simp
    refine VFrom.cons (VStep.val _ rfl _ rfl (.pointer (some ⟨D, 6, none⟩)) rfl trivial (fun ev wq hS he hr => ?_)) ?_
    · have r0 : ev (.tmp 1) = .pointer (some ⟨D, 0, none⟩) := hr (1, none) (by simp); have hk := he.1; clear hr he
      go_simp
    refine VFrom.cons (VStep.val _ rfl _ rfl (.int .u8 x) rfl trivial (fun ev wq hS he hr => ?_)) ?_
    · have r0 : ev (.tmp 25) = .pointer (some ⟨D, 6, none⟩) := hr (25, some 6) (by simp); have hk := he.1; clear hr he
      have c0 := (H1.out.kept hS.out (fun h => h)).cell 6
      go_simp
    refine VFrom.cons (VStep.val _ rfl _ rfl (.slice yb nb db) rfl trivial (fun ev wq hS he hr => ?_)) ?_
    · have r0 : ev (.tmp 20) = .slice yb nb db := hr (20, some 1) (by simp); have hk := he.1; clear hr he
      go_simp
    refine VFrom.cons (VStep.val _ rfl _ rfl (.int .i64 m) rfl trivial (fun ev wq hS he hr => ?_)) ?_
    · have r0 : ev (.tmp 22) = .int .i64 m := hr (22, some 3) (by simp); have hk := he.1; clear hr he
      go_simp
    refine VFrom.cons (VStep.val _ rfl _ rfl (.int .i64 a) rfl trivial (fun ev wq hS he hr => ?_)) ?_
    · have r0 : ev (.tmp 24) = .int .i64 a := hr (24, some 5) (by simp); have hk := he.1; clear hr he
      go_simp
    refine VFrom.cons (VStep.val _ rfl _ rfl (.int .u8 x) rfl trivial (fun ev wq hS he hr => ?_)) ?_
    · have r0 : ev (.tmp 26) = .int .u8 x := hr (26, some 7) (by simp); have hk := he.1; clear hr he
      go_simp
    exact VFrom.nil
  case hS => exact hid (Kp.refl Nb w1).drew
  case hend =>
    intro w2 h2
    have HB2 := hid (HB1.out.kept h2.out (fun _ h => h))
    have K2 := hid (K1.out.trans h2.out (fun _ _ h => h))
    clear h2 HB1 K1 H1
    simp only [putAll, List.zip_cons_cons, List.zip_nil_right, List.foldl_cons, List.foldl_nil, Act.put, List.setIfInBounds_toArray, List.set_cons_zero, List.set_cons_succ]
    by_cases hl : 3000 < nb
    · have dl : decide ((nb : Int) > 3000) = true := decide_eq_true (by omega)
      go_wp2
      go_ret
      exact ⟨rfl, K2.out⟩
    have dl : decide ((nb : Int) > 3000) = false := decide_eq_false (by omega)
    have HN3 : Hid (nb ≤ 3000) := hid (by omega)
    clear hl
    obtain ⟨M, hM⟩ : ∃ M : Nat, max 0 (min m 3000) = (M : Int) := ⟨(max 0 (min m 3000)).toNat, by omega⟩
    have HM : Hid (M ≤ 3000) := hid (by omega)
    have CAL : Hid (∀ w', Kp Nb w2 w' → Calls Try.prog 16 #[.slice yb nb db, .int .i64 (M : Int)] w' fun e w'' => ∃ v1 v2 xs, e = .returned (.tuple #[v1, v2]) ∧ RowsSl f1F zF3 1 w'' v1 xs ∧ RowsSl f2F zF3 2 w'' v2 xs ∧ SpF zs xs w'' ∧ (xs.length = M ∨ (xs.length ≤ M ∧ ¬ okF zs xs.length)) ∧ Kp Nb w' w'') := hid (fun w' hk => by
      have h := fall_rows (.slice yb nb db) zs (M : Int) w' (HB2.out.kept hk (fun _ h => h)) (by rw [HNB.out]; have := HN3.out; omega)
      rw [Int.toNat_natCast] at h
      exact h)
    go_wp2_with fail
    refine (CAL.out _ (Kp.refl _ _)).mono ?_
    rintro e w3 ⟨v1, v2, xs, rfl, r1, r2, hsp, hle, k3⟩
    obtain ⟨y1, d1, rfl⟩ := r1.shape
    obtain ⟨y2, d2, rfl⟩ := r2.shape
    obtain ⟨nx, hnx⟩ : ∃ n, xs.length = n := ⟨_, rfl⟩
    rw [hnx] at r1 r2 hle ⊢
    have R1 := hid r1
    have R2 := hid r2
    have HSP := hid hsp
    have HLE := hid hle
    have HNX := hid hnx
    have HNXM : Hid (nx ≤ 3000) := hid (by have := HM.out; omega)
    have HB3 := hid (HB2.out.kept k3 (fun _ h => h))
    have K3 := hid (K2.out.trans k3 (fun _ _ h => h))
    have OKX : Hid (∀ j, j < nx → okF zs j) := hid (fun j hj => hsp.1 j (by omega))
    have CTU : Hid (∀ w', BySl Nb w' (.slice yb nb db) zs → Calls Try.prog 18 #[.slice yb nb db, .int .i64 a, .int .u8 x] w' fun e w'' => ∃ v', e = .returned v' ∧ BySl Nb w'' v' (turnB zs a x) ∧ Kp Nb w' w'') := hid (fun w' h => fturn_any _ zs a x w' h (by rw [HNB.out]; have := HN3.out; omega))
    clear r1 r2 hsp hle hnx k3 HB2 K2 CAL dl hM
    go_wp2
    go_loopw [10, 11] (AlR w3 zs nx) (fun _ i _ => nx - (intOf i).toNat)
    case atStart => exact ⟨0, Nat.zero_le _, rfl, rfl, hid (Kp.refl _ _)⟩
    case round =>
      obtain ⟨n, hn, rfl, rfl, HK⟩ := hrel
      have HBr := hid (HB3.out.kept HK.out (fun _ h => h))
      have KWr := hid (K3.out.trans HK.out (fun _ _ h => h))
      obtain ⟨pl, hpl⟩ : ∃ p, atF zs n = p := ⟨_, rfl⟩
      have hple : pl ≤ nb := by rw [← hpl, ← HNB.out]; exact (atF_le zs n (fun j hj => OKX.out j (by omega))).1
      rw [hpl]
      have HPL := hid hpl
      have HPLE := hid hple
      have HNN := hid hn
      clear hpl
      by_cases h1 : n < M
      · have c1 : decide ((n : Int) < (M : Int)) = true := decide_eq_true (by omega)
        by_cases h2 : pl < nb
        · have c2 : decide ((pl : Int) < (nb : Int)) = true := decide_eq_true (by omega)
          obtain ⟨ff, hff⟩ : ∃ f, frF zs n = f := ⟨_, rfl⟩
          obtain ⟨kx, bx, sz, er⟩ := ff
          have hnx2 : nextF (zs.drop pl) = (kx, bx, sz, er) := by have h := hff; unfold frF at h; rw [HPL.out] at h; exact h
          obtain ⟨nbx, hnbx⟩ : ∃ n, bx.length = n := ⟨_, rfl⟩
          obtain ⟨xc, dc, VC, BC⟩ := HBr.out.cutL pl (by rw [HNB.out]; exact hple)
          rw [HNB.out] at VC BC
          obtain ⟨nc, hnc⟩ : ∃ n, nb - pl = n := ⟨_, rfl⟩
          rw [hnc] at VC BC
          obtain ⟨SD, hSD⟩ : ∃ s, st (zs.drop pl) = s := ⟨_, rfl⟩
          have hcv : (convert 22 9 (.slice xc nc dc)).run Try.prog wr = .ok (.string SD) wr := by rw [← hSD]; exact conv_any BC
          have CNX : Hid (∀ w', Calls Try.prog 17 #[.string SD] w' fun e w'' => ∃ y d, e = .returned (.tuple #[frV kx (.slice y nbx d), .int .i64 sz, .int .i64 er]) ∧ BySl Nb w'' (.slice y nbx d) bx ∧ Kp Nb w' w'') := hid (fun w' => by
            have h := rnext_any (zs.drop pl) w' (HZ.out.drop _) (by rw [List.length_drop, HNB.out]; have := HN3.out; omega)
            rw [hnx2, hSD] at h
            refine h.mono ?_
            rintro e w'' ⟨b, rfl, hb, hk⟩
            obtain ⟨y, d, rfl⟩ := hb.shp
            rw [hnbx] at hb ⊢
            exact ⟨y, d, rfl, hb, hk⟩)
          have HFF := hid hff
          have HNC := hid hnc
          have HNBX := hid hnbx
          clear hff hnx2 BC hSD hnc hnbx
          have hn3 := HN3.out
          go_wp2_with (refine wpList_val (by rfl) _ _ (exec_convert rfl rfl hcv) ?_)
          refine (CNX.out _).mono ?_
          rintro e w4 ⟨yr, dr, rfl, hb4, k4⟩
          obtain ⟨M4, hM4⟩ : ∃ N, w4.heap.size = N := ⟨_, rfl⟩
          obtain ⟨W4, hW4⟩ : ∃ W, W = w4.alloc (.cells (frL kx (.slice yr nbx dr)).toArray 24) := ⟨_, rfl⟩
          have ka : Kp Nb w4 W4 := by rw [hW4]; exact (Kp.refl Nb w4).alloc _
          have BM : Hid (Blk W4 M4 24 (frL kx (.slice yr nbx dr))) := hid (by rw [hW4, ← hM4]; exact Blk.new w4 _ _)
          have BQ : Hid (BySl Nb W4 (.slice yr nbx dr) bx) := hid (hb4.kept ka (fun _ h => h))
          have kk := k4.trans ka (fun _ _ h => h)
          have HK4 := hid (HK.out.trans kk (fun _ _ h => h))
          clear k4 ka hb4 kk hcv VC CNX HBr KWr
          go_upto_region 11 with fail
          rw [show w4.alloc (.cells #[.int .i64 kx, .slice yr nbx dr] 24) = W4 from hW4.symm]
          clear hW4 hM4
          by_cases he : er = 0
          · have d3 : (er != 0) = false := by rw [bne_eq_false_iff_eq]; exact he
            have hok : okF zs n := by unfold okF; rw [HFF.out]; exact he
            have hlt : n < nx := by
              rcases Nat.lt_or_ge n nx with h | h
              · exact h
              · obtain rfl : n = nx := by omega
                rcases HLE.out with h3 | ⟨-, h3⟩
                · omega
                · exact absurd hok h3
            have hsz := frF_size zs n hok
            have hat := atF_succ zs n
            rw [HFF.out, HPL.out] at hsz hat
            dsimp only at hsz hat
            rw [HNB.out] at hsz
            have HAT : Hid (atF zs (n + 1) = pl + sz.toNat) := hid hat
            obtain ⟨s8, hs8⟩ : ∃ s : Nat, sz = (s : Int) := ⟨sz.toNat, by omega⟩
            subst hs8
            have HS8 : Hid (s8 ≤ nb - pl) := hid (by omega)
            obtain ⟨g1, o1, c1', e1, n1, m1, q1⟩ := rows_pos R1.out HNX.out (by omega)
            obtain ⟨g2, o2, c2', e2, n2, m2, q2⟩ := rows_pos R2.out HNX.out (by omega)
            injection e1 with a1 a2 a3
            injection e2 with b1 b2 b3
            subst a1 a3 b1 b3
            clear a2 b2
            obtain ⟨⟨px, kx', yx, nx', dx⟩, hxe⟩ : ∃ q, xs[n]? = some q := ⟨_, List.getElem?_eq_getElem (by have := HNX.out; omega)⟩
            obtain ⟨x1, x2, x3, -⟩ := HSP.out.2 n _ hxe
            rw [HPL.out] at x1
            rw [HFF.out] at x2 x3
            dsimp only at x1 x2 x3
            obtain ⟨y', d', e'⟩ := x3.shp
            rw [HNBX.out] at e'
            injection e' with u1 u2 u3
            subst x1 x2 u1 u2 u3
            have t1 := q1 n hlt
            have t2 := q2 n hlt
            rw [hxe] at t1 t2
            have C1 : Hid (W4.cell? ⟨g1, o1 + n, none⟩ = some (.int .i64 (px : Int))) := hid (by have h := t1 0 _ rfl; rw [Nat.mul_one] at h; exact HK4.out.cell h (fun h => h))
            have R2' : Hid (W4.rangeAt g2 (o2 + n * 2) (frL kx' (.slice yx nx' dx))) := hid (rngf_kept t2 HK4.out)
            have BX : Hid (BySl Nb W4 (.slice yx nx' dx) bx) := hid (x3.kept HK4.out (fun _ h => h))
            have CS : Hid (∀ u v wq, BySl Nb wq u bx → BySl Nb wq v bx → Calls Try.prog 14 #[frV kx' u, frV kx' v] wq fun e w' => e = .returned (.bool true) ∧ Kp Nb wq w') := hid (fun u v wq h1 h2 => by
              have h := fsame_any kx' kx' u v bx bx wq h1 h2
              rw [show sameF kx' kx' bx bx = true from by simp [sameF]] at h
              exact h)
            unfold maxLen at m1 m2
            have BD := hid (show n < nx ∧ nx ≤ 3000 from ⟨hlt, HNXM.out⟩)
            have BN := hid (show nx ≤ d1 ∧ nx ≤ d2 from ⟨n1, n2⟩)
            have HPB := hid (show px ≤ nb from hple)
            clear x3 t1 t2 q1 q2 hxe m1 m2 n1 n2 hok hsz hat he
            go_upto_region 12 with fail
            refine region_vals2 [none, none, none, none, none, none, none, none, none, none, none, none, none, none, none, none, none, none, none, none, none, none, none, none, none, none, none, none, none, none, none, none, none, none, none, none, none, none, none, none, none, none, none, none, none, none, none, none, none, none, none, none, none, none, none, none, none, none, none, some 0, some 1, some 2, some 3, some 4, some 5, some 6, some 7, some 8, some 9, some 10, some 11, some 12, some 13, some 14, some 15, some 16, some 17, some 18, some 19, some 20, none, none, none, none, none, none, none, none, none, none, none, none, none, none, none, none, none, none, none, none, none, none, none, none, none, none, none, none, none, none, none, none, none, none, none, none, none, none, none, none, none, none, none, none, none, none, none, none, none, none, none, none, none, none, none, none, none, none] [[(11, none)], [(8, none)], [(60, some 1)], [(59, some 0), (61, some 2)], [(62, some 3)], [(8, none)], [(11, none)], [(64, some 5), (65, some 6)], [(66, some 7)], [(10, none)], [(67, some 8), (68, some 9)], [(63, some 4), (69, some 10)], [(70, some 11)], [(9, none)], [(11, none)], [(72, some 13), (73, some 14)], [(74, some 15)], [(12, none)], [(75, some 16), (76, some 17)], [(77, some 18)], [(71, some 12), (78, some 19)]] [some 59, some 60, some 61, some 62, some 63, some 64, some 65, some 66, some 67, some 68, some 69, some 70, some 71, some 72, some 73, some 74, some 75, some 76, some 77, some 78, some 79] [.int .i64 (n : Int), .slice (some ⟨g1, o1, none⟩) nx d1, .int .i64 (nx : Int), .bool false, .bool false, .slice (some ⟨g1, o1, none⟩) nx d1, .int .i64 (n : Int), .pointer (some ⟨g1, o1 + n, none⟩), .int .i64 (px : Int), .int .i64 (px : Int), .bool false, .bool false, .bool false, .slice (some ⟨g2, o2, none⟩) nx d2, .int .i64 (n : Int), .pointer (some ⟨g2, o2 + n * 2, none⟩), frV kx' (.slice yx nx' dx), frV kx' (.slice yr nx' dr), .bool true, .bool false, .bool false] (fun w' => Hid (Kp Nb W4 w')) (by kernel_rfl) (by kernel_rfl) (by kernel_rfl) ?hS (VFrom.all (n := 21) (by kernel_rfl) ?hstep) ?hend
            case hstep =>
              refine VFrom.cons (VStep.val _ rfl _ rfl (.int .i64 (n : Int)) rfl trivial (fun ev wq hS he hr => ?_)) ?_
              · have r0 : ev (.tmp 11) = .int .i64 (n : Int) := hr (11, none) (by simp); have hk := he.1; clear hr he
                go_simp
              refine VFrom.cons (VStep.val _ rfl _ rfl (.slice (some ⟨g1, o1, none⟩) nx d1) rfl trivial (fun ev wq hS he hr => ?_)) ?_
              · have r0 : ev (.tmp 8) = .slice (some ⟨g1, o1, none⟩) nx d1 := hr (8, none) (by simp); have hk := he.1; clear hr he
                go_simp
              refine VFrom.cons (VStep.val _ rfl _ rfl (.int .i64 (nx : Int)) rfl trivial (fun ev wq hS he hr => ?_)) ?_
              · have r0 : ev (.tmp 60) = .slice (some ⟨g1, o1, none⟩) nx d1 := hr (60, some 1) (by simp); have hk := he.1; clear hr he
                go_simp
              refine VFrom.cons (VStep.val _ rfl _ rfl (.bool false) rfl trivial (fun ev wq hS he hr => ?_)) ?_
              · have r0 : ev (.tmp 59) = .int .i64 (n : Int) := hr (59, some 0) (by simp); have r1 : ev (.tmp 61) = .int .i64 (nx : Int) := hr (61, some 2) (by simp); have hk := he.1; clear hr he
                have e1 := BD.out; have e2 := BN.out
                go_simp
              refine VFrom.cons (VStep.val _ rfl _ rfl (.bool false) rfl trivial (fun ev wq hS he hr => ?_)) ?_
              · have r0 : ev (.tmp 62) = .bool false := hr (62, some 3) (by simp); have hk := he.1; clear hr he
                go_simp
              refine VFrom.cons (VStep.val _ rfl _ rfl (.slice (some ⟨g1, o1, none⟩) nx d1) rfl rfl (fun ev wq hS he hr => ?_)) ?_
              · have r0 : ev (.tmp 8) = .slice (some ⟨g1, o1, none⟩) nx d1 := hr (8, none) (by simp); have hk := he.1; clear hr he
                go_simp
              refine VFrom.cons (VStep.val _ rfl _ rfl (.int .i64 (n : Int)) rfl rfl (fun ev wq hS he hr => ?_)) ?_
              · have r0 : ev (.tmp 11) = .int .i64 (n : Int) := hr (11, none) (by simp); have hk := he.1; clear hr he
                go_simp
              refine VFrom.cons (VStep.val _ rfl _ rfl (.pointer (some ⟨g1, o1 + n, none⟩)) rfl rfl (fun ev wq hS he hr => ?_)) ?_
              · have r0 : ev (.tmp 64) = .slice (some ⟨g1, o1, none⟩) nx d1 := hr (64, some 5) (by simp); have r1 : ev (.tmp 65) = .int .i64 (n : Int) := hr (65, some 6) (by simp); have hk := he.1; clear hr he
                have e1 := BD.out; have e2 := BN.out
                go_simp
              refine VFrom.cons (VStep.val _ rfl _ rfl (.int .i64 (px : Int)) rfl rfl (fun ev wq hS he hr => ?_)) ?_
              · have r0 : ev (.tmp 66) = .pointer (some ⟨g1, o1 + n, none⟩) := hr (66, some 7) (by simp); have hk := he.1; clear hr he
                have c0 := hS.out.cell C1.out (fun h => h)
                go_simp
              refine VFrom.cons (VStep.val _ rfl _ rfl (.int .i64 (px : Int)) rfl rfl (fun ev wq hS he hr => ?_)) ?_
              · have r0 : ev (.tmp 10) = .int .i64 (px : Int) := hr (10, none) (by simp); have hk := he.1; clear hr he
                go_simp
              refine VFrom.cons (VStep.val _ rfl _ rfl (.bool false) rfl rfl (fun ev wq hS he hr => ?_)) ?_
              · have r0 : ev (.tmp 67) = .int .i64 (px : Int) := hr (67, some 8) (by simp); have r1 : ev (.tmp 68) = .int .i64 (px : Int) := hr (68, some 9) (by simp); have hk := he.1; clear hr he
                go_simp
              refine VFrom.cons (VStep.val _ rfl _ rfl (.bool false) rfl trivial (fun ev wq hS he hr => ?_)) ?_
              · have r0 : ev (.tmp 63) = .bool false := hr (63, some 4) (by simp); have r1 : ev (.tmp 69) = .bool false := hr (69, some 10) (by simp); have hk := he.1; clear hr he
                go_simp
              refine VFrom.cons (VStep.val _ rfl _ rfl (.bool false) rfl trivial (fun ev wq hS he hr => ?_)) ?_
              · have r0 : ev (.tmp 70) = .bool false := hr (70, some 11) (by simp); have hk := he.1; clear hr he
                go_simp
              refine VFrom.cons (VStep.val _ rfl _ rfl (.slice (some ⟨g2, o2, none⟩) nx d2) rfl rfl (fun ev wq hS he hr => ?_)) ?_
              · have r0 : ev (.tmp 9) = .slice (some ⟨g2, o2, none⟩) nx d2 := hr (9, none) (by simp); have hk := he.1; clear hr he
                go_simp
              refine VFrom.cons (VStep.val _ rfl _ rfl (.int .i64 (n : Int)) rfl rfl (fun ev wq hS he hr => ?_)) ?_
              · have r0 : ev (.tmp 11) = .int .i64 (n : Int) := hr (11, none) (by simp); have hk := he.1; clear hr he
                go_simp
              refine VFrom.cons (VStep.val _ rfl _ rfl (.pointer (some ⟨g2, o2 + n * 2, none⟩)) rfl rfl (fun ev wq hS he hr => ?_)) ?_
              · have r0 : ev (.tmp 72) = .slice (some ⟨g2, o2, none⟩) nx d2 := hr (72, some 13) (by simp); have r1 : ev (.tmp 73) = .int .i64 (n : Int) := hr (73, some 14) (by simp); have hk := he.1; clear hr he
                have e1 := BD.out; have e2 := BN.out
                go_simp
              refine VFrom.cons (VStep.val _ rfl _ rfl (frV kx' (.slice yx nx' dx)) rfl rfl (fun ev wq hS he hr => ?_)) ?_
              · have r0 : ev (.tmp 74) = .pointer (some ⟨g2, o2 + n * 2, none⟩) := hr (74, some 15) (by simp); have hk := he.1; clear hr he
                exact exec_load rfl r0 (frr_load (rngf_kept R2'.out hS.out))
              refine VFrom.cons (VStep.val _ rfl _ rfl (frV kx' (.slice yr nx' dr)) rfl rfl (fun ev wq hS he hr => ?_)) ?_
              · have r0 : ev (.tmp 12) = .pointer (some ⟨M4, 0, none⟩) := hr (12, none) (by simp); have hk := he.1; clear hr he
                exact exec_load rfl r0 (fr_load (BM.out.kept hS.out (fun h => h)))
              refine VFrom.cons (VStep.call _ rfl _ rfl (.bool true) rfl rfl 14 #[frV kx' (.slice yx nx' dx), frV kx' (.slice yr nx' dr)] (fun ev wq hS he hr => ?_) (fun wq hS => ?_)) ?_
              · have r0 : ev (.tmp 75) = frV kx' (.slice yx nx' dx) := hr (75, some 16) (by simp); have r1 : ev (.tmp 76) = frV kx' (.slice yr nx' dr) := hr (76, some 17) (by simp); have hk := he.1; have hf := he.2; clear hr he
                go_simp
              · exact (CS.out _ _ wq (BX.out.kept hS.out (fun _ h => h)) (BQ.out.kept hS.out (fun _ h => h))).mono fun e w' ⟨h1, h2⟩ => ⟨h1, hid (hS.out.trans h2 (fun _ _ h => h))⟩
              refine VFrom.cons (VStep.val _ rfl _ rfl (.bool false) rfl rfl (fun ev wq hS he hr => ?_)) ?_
              · have r0 : ev (.tmp 77) = .bool true := hr (77, some 18) (by simp); have hk := he.1; clear hr he
                go_simp
              refine VFrom.cons (VStep.val _ rfl _ rfl (.bool false) rfl trivial (fun ev wq hS he hr => ?_)) ?_
              · have r0 : ev (.tmp 71) = .bool false := hr (71, some 12) (by simp); have r1 : ev (.tmp 78) = .bool false := hr (78, some 19) (by simp); have hk := he.1; clear hr he
                go_simp
              exact VFrom.nil
            case hS => exact hid (Kp.refl Nb W4).drew
            case hend =>
              intro wy hy
              have K9 := hid (HK4.out.trans hy.out (fun _ _ h => h))
              clear hy
              have hb1 := BD.out.1
              have hb2 := BD.out.2
              have hb3 := HS8.out
              simp only [putAll, List.zip_cons_cons, List.zip_nil_right, List.foldl_cons, List.foldl_nil, Act.put, List.setIfInBounds_toArray, List.set_cons_zero, List.set_cons_succ]
              go_wp2
              go_roundw
              case rel => exact ⟨n + 1, by have := BD.out; omega, by go_num, by rw [HAT.out]; go_num, K9⟩
              case measure => simp [intOf]; have := BD.out; omega
          · have d3 : (er != 0) = true := by rw [bne_iff_ne]; exact he
            have hno : ¬ okF zs n := by unfold okF; rw [HFF.out]; exact he
            have enx : n = nx := by
              rcases Nat.lt_or_ge n nx with h | h
              · exact absurd (OKX.out n h) hno
              · omega
            have HBr := hid (HB3.out.kept HK4.out (fun _ h => h))
            have KWr := hid (K3.out.trans HK4.out (fun _ _ h => h))
            clear hno he
            subst enx
            go_wp2_with fail
            refine (CTU.out _ HBr.out).mono ?_
            rintro e w5 ⟨v15, rfl, hb5, k5⟩
            obtain ⟨y6, d6, rfl⟩ := hb5.shp
            rw [turnB_length, HNB.out] at hb5 ⊢
            have BT := hid hb5
            have BZ := hid (HBr.out.kept k5 (fun _ h => h))
            have K5 := hid (KWr.out.trans k5 (fun _ _ h => h))
            clear hb5 k5 CTU
            have hnb3 := HN3.out
            go_wp2
            go_loopw [102] (JtR w5 nb) (fun i _ => nb - (intOf i).toNat)
            case atStart => exact ⟨0, Nat.zero_le _, rfl, hid (Kp.refl _ _)⟩
            case round =>
              obtain ⟨j, hj, rfl, HK⟩ := hrel
              by_cases hlt : j < nb
              · obtain ⟨g6, o6, c6, e6, n6, m6, q6⟩ := by_pos (n := nb) BT.out (by rw [turnB_length]; exact HNB.out) (by omega)
                obtain ⟨g7, o7, c7, e7, n7, m7, q7⟩ := by_pos BZ.out HNB.out (by omega)
                injection e6 with a1 a2 a3
                injection e7 with b1 b2 b3
                subst a1 a3 b1 b3
                clear a2 b2
                have t6 := q6 j hlt
                have t7 := q7 j hlt
                obtain ⟨z, hz⟩ : ∃ z, zs[j]?.getD 0 = z := ⟨_, rfl⟩
                rw [hz] at t7
                unfold maxLen at m6 m7
                have BD := hid (show j < nb ∧ nb ≤ 3000 from ⟨hlt, HN3.out⟩)
                have BN := hid (show nb ≤ d6 ∧ nb ≤ db from ⟨n6, n7⟩)
                by_cases hat : (j : Int) = a
                · obtain ⟨tz, htz⟩ : ∃ t, bits .xor .u8 z x = t := ⟨_, rfl⟩
                  have e6 : (turnB zs a x)[j]?.getD 0 = tz := by
                    unfold turnB
                    rw [if_pos (by rw [HNB.out]; omega), ← hat, Int.toNat_natCast, List.getElem?_set_self (by rw [HNB.out]; exact hlt), Option.getD_some, hz, htz]
                  rw [e6] at t6
                  have C6 := hid t6
                  have C7 := hid t7
                  have HXR := hid htz
                  clear t6 t7 q6 q7 hz htz e6 m6 m7 n6 n7
                  subst hat
                  go_upto_region 22 with fail
                  refine region_vals2 [none, none, none, none, none, none, none, none, none, none, none, none, none, none, none, none, none, none, none, none, none, none, none, none, none, none, none, none, none, none, none, none, none, none, none, none, none, none, none, none, none, none, none, none, none, none, none, none, none, none, none, none, none, none, none, none, none, none, none, none, none, none, none, none, none, none, none, none, none, none, none, none, none, none, none, none, none, none, none, none, none, none, none, none, none, none, none, none, none, none, none, none, none, none, none, none, none, none, none, none, none, none, none, none, none, some 0, some 1, some 2, some 3, some 4, some 5, some 6, some 7, some 8, some 9, some 10, some 11, some 12, some 13, some 14, some 15, some 16, some 17, some 18, some 19, some 20, some 21, some 22, some 23, some 24, some 25, some 26, some 27, some 28, some 29, some 30, some 31, none] [[(16, none)], [(5, none)], [(105, some 0), (106, some 1)], [(107, some 2)], [(15, none)], [(16, none)], [(109, some 4), (110, some 5)], [(111, some 6)], [(3, none)], [(16, none)], [(113, some 8), (114, some 9)], [(115, some 10)], [(6, none)], [(116, some 11), (117, some 12)], [(112, some 7), (118, some 13)], [(108, some 3), (119, some 14)], [(120, some 15)], [(16, none)], [(5, none)], [(122, some 17), (123, some 18)], [(124, some 19)], [(15, none)], [(16, none)], [(126, some 21), (127, some 22)], [(128, some 23)], [(3, none)], [(16, none)], [(130, some 25), (131, some 26)], [(132, some 27)], [(129, some 24), (133, some 28)], [(125, some 20), (134, some 29)], [(121, some 16), (135, some 30)]] [some 105, some 106, some 107, some 108, some 109, some 110, some 111, some 112, some 113, some 114, some 115, some 116, some 117, some 118, some 119, some 120, some 121, some 122, some 123, some 124, some 125, some 126, some 127, some 128, some 129, some 130, some 131, some 132, some 133, some 134, some 135, some 136] [.int .i64 (j : Int), .int .i64 (j : Int), .bool true, .bool true, .slice (some ⟨g6, o6, none⟩) nb d6, .int .i64 (j : Int), .pointer (some ⟨g6, o6 + j, none⟩), .int .u8 tz, .slice (some ⟨g7, o7, none⟩) nb db, .int .i64 (j : Int), .pointer (some ⟨g7, o7 + j, none⟩), .int .u8 z, .int .u8 x, .int .u8 tz, .bool false, .bool false, .bool false, .int .i64 (j : Int), .int .i64 (j : Int), .bool false, .bool false, undef, undef, undef, undef, undef, undef, undef, undef, undef, .bool false, .bool false] (fun w' => Hid (Kp Nb w5 w')) (by kernel_rfl) (by kernel_rfl) (by kernel_rfl) ?hS (VFrom.all (n := 32) (by kernel_rfl) ?hstep) ?hend
                  case hstep =>
                    refine VFrom.cons (VStep.val _ rfl _ rfl (.int .i64 (j : Int)) rfl trivial (fun ev wq hS he hr => ?_)) ?_
                    · have r0 : ev (.tmp 16) = .int .i64 (j : Int) := hr (16, none) (by simp); have hk := he.1; clear hr he
                      go_simp
                    refine VFrom.cons (VStep.val _ rfl _ rfl (.int .i64 (j : Int)) rfl trivial (fun ev wq hS he hr => ?_)) ?_
                    · have r0 : ev (.tmp 5) = .int .i64 (j : Int) := hr (5, none) (by simp); have hk := he.1; clear hr he
                      go_simp
                    refine VFrom.cons (VStep.val _ rfl _ rfl (.bool true) rfl trivial (fun ev wq hS he hr => ?_)) ?_
                    · have r0 : ev (.tmp 105) = .int .i64 (j : Int) := hr (105, some 0) (by simp); have r1 : ev (.tmp 106) = .int .i64 (j : Int) := hr (106, some 1) (by simp); have hk := he.1; clear hr he
                      go_simp
                    refine VFrom.cons (VStep.val _ rfl _ rfl (.bool true) rfl trivial (fun ev wq hS he hr => ?_)) ?_
                    · have r0 : ev (.tmp 107) = .bool true := hr (107, some 2) (by simp); have hk := he.1; clear hr he
                      go_simp
                    refine VFrom.cons (VStep.val _ rfl _ rfl (.slice (some ⟨g6, o6, none⟩) nb d6) rfl rfl (fun ev wq hS he hr => ?_)) ?_
                    · have r0 : ev (.tmp 15) = .slice (some ⟨g6, o6, none⟩) nb d6 := hr (15, none) (by simp); have hk := he.1; clear hr he
                      go_simp
                    refine VFrom.cons (VStep.val _ rfl _ rfl (.int .i64 (j : Int)) rfl rfl (fun ev wq hS he hr => ?_)) ?_
                    · have r0 : ev (.tmp 16) = .int .i64 (j : Int) := hr (16, none) (by simp); have hk := he.1; clear hr he
                      go_simp
                    refine VFrom.cons (VStep.val _ rfl _ rfl (.pointer (some ⟨g6, o6 + j, none⟩)) rfl rfl (fun ev wq hS he hr => ?_)) ?_
                    · have r0 : ev (.tmp 109) = .slice (some ⟨g6, o6, none⟩) nb d6 := hr (109, some 4) (by simp); have r1 : ev (.tmp 110) = .int .i64 (j : Int) := hr (110, some 5) (by simp); have hk := he.1; clear hr he
                      have e1 := BD.out; have e2 := BN.out
                      go_simp
                    refine VFrom.cons (VStep.val _ rfl _ rfl (.int .u8 tz) rfl rfl (fun ev wq hS he hr => ?_)) ?_
                    · have r0 : ev (.tmp 111) = .pointer (some ⟨g6, o6 + j, none⟩) := hr (111, some 6) (by simp); have hk := he.1; clear hr he
                      have c0 := hS.out.cell C6.out (fun h => h)
                      go_simp
                    refine VFrom.cons (VStep.val _ rfl _ rfl (.slice (some ⟨g7, o7, none⟩) nb db) rfl rfl (fun ev wq hS he hr => ?_)) ?_
                    · have r0 : ev (.tmp 3) = .slice (some ⟨g7, o7, none⟩) nb db := hr (3, none) (by simp); have hk := he.1; clear hr he
                      go_simp
                    refine VFrom.cons (VStep.val _ rfl _ rfl (.int .i64 (j : Int)) rfl rfl (fun ev wq hS he hr => ?_)) ?_
                    · have r0 : ev (.tmp 16) = .int .i64 (j : Int) := hr (16, none) (by simp); have hk := he.1; clear hr he
                      go_simp
                    refine VFrom.cons (VStep.val _ rfl _ rfl (.pointer (some ⟨g7, o7 + j, none⟩)) rfl rfl (fun ev wq hS he hr => ?_)) ?_
                    · have r0 : ev (.tmp 113) = .slice (some ⟨g7, o7, none⟩) nb db := hr (113, some 8) (by simp); have r1 : ev (.tmp 114) = .int .i64 (j : Int) := hr (114, some 9) (by simp); have hk := he.1; clear hr he
                      have e1 := BD.out; have e2 := BN.out
                      go_simp
                    refine VFrom.cons (VStep.val _ rfl _ rfl (.int .u8 z) rfl rfl (fun ev wq hS he hr => ?_)) ?_
                    · have r0 : ev (.tmp 115) = .pointer (some ⟨g7, o7 + j, none⟩) := hr (115, some 10) (by simp); have hk := he.1; clear hr he
                      have c0 := hS.out.cell C7.out (fun h => h)
                      go_simp
                    refine VFrom.cons (VStep.val _ rfl _ rfl (.int .u8 x) rfl rfl (fun ev wq hS he hr => ?_)) ?_
                    · have r0 : ev (.tmp 6) = .int .u8 x := hr (6, none) (by simp); have hk := he.1; clear hr he
                      go_simp
                    refine VFrom.cons (VStep.val _ rfl _ rfl (.int .u8 tz) rfl rfl (fun ev wq hS he hr => ?_)) ?_
                    · have r0 : ev (.tmp 116) = .int .u8 z := hr (116, some 11) (by simp); have r1 : ev (.tmp 117) = .int .u8 x := hr (117, some 12) (by simp); have hk := he.1; clear hr he
                      have e1 := HXR.out
                      go_simp
                    refine VFrom.cons (VStep.val _ rfl _ rfl (.bool false) rfl rfl (fun ev wq hS he hr => ?_)) ?_
                    · have r0 : ev (.tmp 112) = .int .u8 tz := hr (112, some 7) (by simp); have r1 : ev (.tmp 118) = .int .u8 tz := hr (118, some 13) (by simp); have hk := he.1; clear hr he
                      go_simp
                    refine VFrom.cons (VStep.val _ rfl _ rfl (.bool false) rfl trivial (fun ev wq hS he hr => ?_)) ?_
                    · have r0 : ev (.tmp 108) = .bool true := hr (108, some 3) (by simp); have r1 : ev (.tmp 119) = .bool false := hr (119, some 14) (by simp); have hk := he.1; clear hr he
                      go_simp
                    refine VFrom.cons (VStep.val _ rfl _ rfl (.bool false) rfl trivial (fun ev wq hS he hr => ?_)) ?_
                    · have r0 : ev (.tmp 120) = .bool false := hr (120, some 15) (by simp); have hk := he.1; clear hr he
                      go_simp
                    refine VFrom.cons (VStep.val _ rfl _ rfl (.int .i64 (j : Int)) rfl rfl (fun ev wq hS he hr => ?_)) ?_
                    · have r0 : ev (.tmp 16) = .int .i64 (j : Int) := hr (16, none) (by simp); have hk := he.1; clear hr he
                      go_simp
                    refine VFrom.cons (VStep.val _ rfl _ rfl (.int .i64 (j : Int)) rfl rfl (fun ev wq hS he hr => ?_)) ?_
                    · have r0 : ev (.tmp 5) = .int .i64 (j : Int) := hr (5, none) (by simp); have hk := he.1; clear hr he
                      go_simp
                    refine VFrom.cons (VStep.val _ rfl _ rfl (.bool false) rfl rfl (fun ev wq hS he hr => ?_)) ?_
                    · have r0 : ev (.tmp 122) = .int .i64 (j : Int) := hr (122, some 17) (by simp); have r1 : ev (.tmp 123) = .int .i64 (j : Int) := hr (123, some 18) (by simp); have hk := he.1; clear hr he
                      go_simp
                    refine VFrom.cons (VStep.val _ rfl _ rfl (.bool false) rfl rfl (fun ev wq hS he hr => ?_)) ?_
                    · have r0 : ev (.tmp 124) = .bool false := hr (124, some 19) (by simp); have hk := he.1; clear hr he
                      go_simp
                    refine VFrom.cons (VStep.skip _ rfl rfl rfl) ?_
                    refine VFrom.cons (VStep.skip _ rfl rfl rfl) ?_
                    refine VFrom.cons (VStep.skip _ rfl rfl rfl) ?_
                    refine VFrom.cons (VStep.skip _ rfl rfl rfl) ?_
                    refine VFrom.cons (VStep.skip _ rfl rfl rfl) ?_
                    refine VFrom.cons (VStep.skip _ rfl rfl rfl) ?_
                    refine VFrom.cons (VStep.skip _ rfl rfl rfl) ?_
                    refine VFrom.cons (VStep.skip _ rfl rfl rfl) ?_
                    refine VFrom.cons (VStep.skip _ rfl rfl rfl) ?_
                    refine VFrom.cons (VStep.val _ rfl _ rfl (.bool false) rfl rfl (fun ev wq hS he hr => ?_)) ?_
                    · have r0 : ev (.tmp 125) = .bool false := hr (125, some 20) (by simp); have r1 : ev (.tmp 134) = undef := hr (134, some 29) (by simp); have hk := he.1; clear hr he
                      go_simp
                    refine VFrom.cons (VStep.val _ rfl _ rfl (.bool false) rfl trivial (fun ev wq hS he hr => ?_)) ?_
                    · have r0 : ev (.tmp 121) = .bool false := hr (121, some 16) (by simp); have r1 : ev (.tmp 135) = .bool false := hr (135, some 30) (by simp); have hk := he.1; clear hr he
                      go_simp
                    exact VFrom.nil
                  case hS => exact hid HK.out.drew
                  case hend =>
                    intro wy hy
                    have K9 := hid hy.out
                    clear hy
                    have hb1 := BD.out.1
                    have hb2 := BD.out.2
                    simp only [putAll, List.zip_cons_cons, List.zip_nil_right, List.foldl_cons, List.foldl_nil, Act.put, List.setIfInBounds_toArray, List.set_cons_zero, List.set_cons_succ]
                    go_wp2
                    go_roundw
                    case rel => exact ⟨j + 1, by have := BD.out; omega, by go_num, K9⟩
                    case measure => simp [intOf]; have := BD.out; omega
                · have e6 : (turnB zs a x)[j]?.getD 0 = z := by
                    unfold turnB
                    split
                    · rw [List.getElem?_set_ne (by omega), hz]
                    · exact hz
                  rw [e6] at t6
                  obtain ⟨tz, htz⟩ : ∃ t, z = t := ⟨_, rfl⟩
                  rw [htz] at t6 t7
                  have C6 := hid t6
                  have C7 := hid t7
                  have NE : Hid (((j : Int) == a) = false) := hid (by simpa using hat)
                  have NE' : Hid (((j : Int) != a) = true) := hid (by simpa using hat)
                  clear t6 t7 q6 q7 hz htz e6 m6 m7 n6 n7 hat
                  go_upto_region 22 with fail
                  refine region_vals2 [none, none, none, none, none, none, none, none, none, none, none, none, none, none, none, none, none, none, none, none, none, none, none, none, none, none, none, none, none, none, none, none, none, none, none, none, none, none, none, none, none, none, none, none, none, none, none, none, none, none, none, none, none, none, none, none, none, none, none, none, none, none, none, none, none, none, none, none, none, none, none, none, none, none, none, none, none, none, none, none, none, none, none, none, none, none, none, none, none, none, none, none, none, none, none, none, none, none, none, none, none, none, none, none, none, some 0, some 1, some 2, some 3, some 4, some 5, some 6, some 7, some 8, some 9, some 10, some 11, some 12, some 13, some 14, some 15, some 16, some 17, some 18, some 19, some 20, some 21, some 22, some 23, some 24, some 25, some 26, some 27, some 28, some 29, some 30, some 31, none] [[(16, none)], [(5, none)], [(105, some 0), (106, some 1)], [(107, some 2)], [(15, none)], [(16, none)], [(109, some 4), (110, some 5)], [(111, some 6)], [(3, none)], [(16, none)], [(113, some 8), (114, some 9)], [(115, some 10)], [(6, none)], [(116, some 11), (117, some 12)], [(112, some 7), (118, some 13)], [(108, some 3), (119, some 14)], [(120, some 15)], [(16, none)], [(5, none)], [(122, some 17), (123, some 18)], [(124, some 19)], [(15, none)], [(16, none)], [(126, some 21), (127, some 22)], [(128, some 23)], [(3, none)], [(16, none)], [(130, some 25), (131, some 26)], [(132, some 27)], [(129, some 24), (133, some 28)], [(125, some 20), (134, some 29)], [(121, some 16), (135, some 30)]] [some 105, some 106, some 107, some 108, some 109, some 110, some 111, some 112, some 113, some 114, some 115, some 116, some 117, some 118, some 119, some 120, some 121, some 122, some 123, some 124, some 125, some 126, some 127, some 128, some 129, some 130, some 131, some 132, some 133, some 134, some 135, some 136] [.int .i64 (j : Int), .int .i64 a, .bool false, .bool false, undef, undef, undef, undef, undef, undef, undef, undef, undef, undef, undef, .bool false, .bool false, .int .i64 (j : Int), .int .i64 a, .bool true, .bool true, .slice (some ⟨g6, o6, none⟩) nb d6, .int .i64 (j : Int), .pointer (some ⟨g6, o6 + j, none⟩), .int .u8 tz, .slice (some ⟨g7, o7, none⟩) nb db, .int .i64 (j : Int), .pointer (some ⟨g7, o7 + j, none⟩), .int .u8 tz, .bool false, .bool false, .bool false] (fun w' => Hid (Kp Nb w5 w')) (by kernel_rfl) (by kernel_rfl) (by kernel_rfl) ?hS (VFrom.all (n := 32) (by kernel_rfl) ?hstep) ?hend
                  case hstep =>
                    refine VFrom.cons (VStep.val _ rfl _ rfl (.int .i64 (j : Int)) rfl trivial (fun ev wq hS he hr => ?_)) ?_
                    · have r0 : ev (.tmp 16) = .int .i64 (j : Int) := hr (16, none) (by simp); have hk := he.1; clear hr he
                      go_simp
                    refine VFrom.cons (VStep.val _ rfl _ rfl (.int .i64 a) rfl trivial (fun ev wq hS he hr => ?_)) ?_
                    · have r0 : ev (.tmp 5) = .int .i64 a := hr (5, none) (by simp); have hk := he.1; clear hr he
                      go_simp
                    refine VFrom.cons (VStep.val _ rfl _ rfl (.bool false) rfl trivial (fun ev wq hS he hr => ?_)) ?_
                    · have r0 : ev (.tmp 105) = .int .i64 (j : Int) := hr (105, some 0) (by simp); have r1 : ev (.tmp 106) = .int .i64 a := hr (106, some 1) (by simp); have hk := he.1; clear hr he
                      have e1 := NE.out
                      go_simp
                    refine VFrom.cons (VStep.val _ rfl _ rfl (.bool false) rfl trivial (fun ev wq hS he hr => ?_)) ?_
                    · have r0 : ev (.tmp 107) = .bool false := hr (107, some 2) (by simp); have hk := he.1; clear hr he
                      go_simp
                    refine VFrom.cons (VStep.skip _ rfl rfl rfl) ?_
                    refine VFrom.cons (VStep.skip _ rfl rfl rfl) ?_
                    refine VFrom.cons (VStep.skip _ rfl rfl rfl) ?_
                    refine VFrom.cons (VStep.skip _ rfl rfl rfl) ?_
                    refine VFrom.cons (VStep.skip _ rfl rfl rfl) ?_
                    refine VFrom.cons (VStep.skip _ rfl rfl rfl) ?_
                    refine VFrom.cons (VStep.skip _ rfl rfl rfl) ?_
                    refine VFrom.cons (VStep.skip _ rfl rfl rfl) ?_
                    refine VFrom.cons (VStep.skip _ rfl rfl rfl) ?_
                    refine VFrom.cons (VStep.skip _ rfl rfl rfl) ?_
                    refine VFrom.cons (VStep.skip _ rfl rfl rfl) ?_
                    refine VFrom.cons (VStep.val _ rfl _ rfl (.bool false) rfl trivial (fun ev wq hS he hr => ?_)) ?_
                    · have r0 : ev (.tmp 108) = .bool false := hr (108, some 3) (by simp); have r1 : ev (.tmp 119) = undef := hr (119, some 14) (by simp); have hk := he.1; clear hr he
                      go_simp
                    refine VFrom.cons (VStep.val _ rfl _ rfl (.bool false) rfl trivial (fun ev wq hS he hr => ?_)) ?_
                    · have r0 : ev (.tmp 120) = .bool false := hr (120, some 15) (by simp); have hk := he.1; clear hr he
                      go_simp
                    refine VFrom.cons (VStep.val _ rfl _ rfl (.int .i64 (j : Int)) rfl rfl (fun ev wq hS he hr => ?_)) ?_
                    · have r0 : ev (.tmp 16) = .int .i64 (j : Int) := hr (16, none) (by simp); have hk := he.1; clear hr he
                      go_simp
                    refine VFrom.cons (VStep.val _ rfl _ rfl (.int .i64 a) rfl rfl (fun ev wq hS he hr => ?_)) ?_
                    · have r0 : ev (.tmp 5) = .int .i64 a := hr (5, none) (by simp); have hk := he.1; clear hr he
                      go_simp
                    refine VFrom.cons (VStep.val _ rfl _ rfl (.bool true) rfl rfl (fun ev wq hS he hr => ?_)) ?_
                    · have r0 : ev (.tmp 122) = .int .i64 (j : Int) := hr (122, some 17) (by simp); have r1 : ev (.tmp 123) = .int .i64 a := hr (123, some 18) (by simp); have hk := he.1; clear hr he
                      have e1 := NE'.out
                      go_simp
                    refine VFrom.cons (VStep.val _ rfl _ rfl (.bool true) rfl rfl (fun ev wq hS he hr => ?_)) ?_
                    · have r0 : ev (.tmp 124) = .bool true := hr (124, some 19) (by simp); have hk := he.1; clear hr he
                      go_simp
                    refine VFrom.cons (VStep.val _ rfl _ rfl (.slice (some ⟨g6, o6, none⟩) nb d6) rfl rfl (fun ev wq hS he hr => ?_)) ?_
                    · have r0 : ev (.tmp 15) = .slice (some ⟨g6, o6, none⟩) nb d6 := hr (15, none) (by simp); have hk := he.1; clear hr he
                      go_simp
                    refine VFrom.cons (VStep.val _ rfl _ rfl (.int .i64 (j : Int)) rfl rfl (fun ev wq hS he hr => ?_)) ?_
                    · have r0 : ev (.tmp 16) = .int .i64 (j : Int) := hr (16, none) (by simp); have hk := he.1; clear hr he
                      go_simp
                    refine VFrom.cons (VStep.val _ rfl _ rfl (.pointer (some ⟨g6, o6 + j, none⟩)) rfl rfl (fun ev wq hS he hr => ?_)) ?_
                    · have r0 : ev (.tmp 126) = .slice (some ⟨g6, o6, none⟩) nb d6 := hr (126, some 21) (by simp); have r1 : ev (.tmp 127) = .int .i64 (j : Int) := hr (127, some 22) (by simp); have hk := he.1; clear hr he
                      have e1 := BD.out; have e2 := BN.out
                      go_simp
                    refine VFrom.cons (VStep.val _ rfl _ rfl (.int .u8 tz) rfl rfl (fun ev wq hS he hr => ?_)) ?_
                    · have r0 : ev (.tmp 128) = .pointer (some ⟨g6, o6 + j, none⟩) := hr (128, some 23) (by simp); have hk := he.1; clear hr he
                      have c0 := hS.out.cell C6.out (fun h => h)
                      go_simp
                    refine VFrom.cons (VStep.val _ rfl _ rfl (.slice (some ⟨g7, o7, none⟩) nb db) rfl rfl (fun ev wq hS he hr => ?_)) ?_
                    · have r0 : ev (.tmp 3) = .slice (some ⟨g7, o7, none⟩) nb db := hr (3, none) (by simp); have hk := he.1; clear hr he
                      go_simp
                    refine VFrom.cons (VStep.val _ rfl _ rfl (.int .i64 (j : Int)) rfl rfl (fun ev wq hS he hr => ?_)) ?_
                    · have r0 : ev (.tmp 16) = .int .i64 (j : Int) := hr (16, none) (by simp); have hk := he.1; clear hr he
                      go_simp
                    refine VFrom.cons (VStep.val _ rfl _ rfl (.pointer (some ⟨g7, o7 + j, none⟩)) rfl rfl (fun ev wq hS he hr => ?_)) ?_
                    · have r0 : ev (.tmp 130) = .slice (some ⟨g7, o7, none⟩) nb db := hr (130, some 25) (by simp); have r1 : ev (.tmp 131) = .int .i64 (j : Int) := hr (131, some 26) (by simp); have hk := he.1; clear hr he
                      have e1 := BD.out; have e2 := BN.out
                      go_simp
                    refine VFrom.cons (VStep.val _ rfl _ rfl (.int .u8 tz) rfl rfl (fun ev wq hS he hr => ?_)) ?_
                    · have r0 : ev (.tmp 132) = .pointer (some ⟨g7, o7 + j, none⟩) := hr (132, some 27) (by simp); have hk := he.1; clear hr he
                      have c0 := hS.out.cell C7.out (fun h => h)
                      go_simp
                    refine VFrom.cons (VStep.val _ rfl _ rfl (.bool false) rfl rfl (fun ev wq hS he hr => ?_)) ?_
                    · have r0 : ev (.tmp 129) = .int .u8 tz := hr (129, some 24) (by simp); have r1 : ev (.tmp 133) = .int .u8 tz := hr (133, some 28) (by simp); have hk := he.1; clear hr he
                      go_simp
                    refine VFrom.cons (VStep.val _ rfl _ rfl (.bool false) rfl rfl (fun ev wq hS he hr => ?_)) ?_
                    · have r0 : ev (.tmp 125) = .bool true := hr (125, some 20) (by simp); have r1 : ev (.tmp 134) = .bool false := hr (134, some 29) (by simp); have hk := he.1; clear hr he
                      go_simp
                    refine VFrom.cons (VStep.val _ rfl _ rfl (.bool false) rfl trivial (fun ev wq hS he hr => ?_)) ?_
                    · have r0 : ev (.tmp 121) = .bool false := hr (121, some 16) (by simp); have r1 : ev (.tmp 135) = .bool false := hr (135, some 30) (by simp); have hk := he.1; clear hr he
                      go_simp
                    exact VFrom.nil
                  case hS => exact hid HK.out.drew
                  case hend =>
                    intro wy hy
                    have K9 := hid hy.out
                    clear hy
                    have hb1 := BD.out.1
                    have hb2 := BD.out.2
                    simp only [putAll, List.zip_cons_cons, List.zip_nil_right, List.foldl_cons, List.foldl_nil, Act.put, List.setIfInBounds_toArray, List.set_cons_zero, List.set_cons_succ]
                    go_wp2
                    go_roundw
                    case rel => exact ⟨j + 1, by have := BD.out; omega, by go_num, K9⟩
                    case measure => simp [intOf]; have := BD.out; omega
              · obtain rfl : j = nb := by omega
                have K9 := hid (K5.out.trans HK.out (fun _ _ h => h))
                go_wp2
                go_ret
                exact ⟨rfl, K9.out⟩
        · have c2 : decide ((pl : Int) < (nb : Int)) = false := decide_eq_false (by omega)
          have hno : ¬ okF zs n := by
            unfold okF frF
            rw [HPL.out, List.drop_eq_nil_of_le (by rw [HNB.out]; omega), next_nil]
            decide
          have enx : n = nx := by
            rcases Nat.lt_or_ge n nx with h | h
            · exact absurd (OKX.out n h) hno
            · omega
          clear hno
          subst enx
          go_wp2_with fail
          refine (CTU.out _ HBr.out).mono ?_
          rintro e w5 ⟨v15, rfl, hb5, k5⟩
          obtain ⟨y6, d6, rfl⟩ := hb5.shp
          rw [turnB_length, HNB.out] at hb5 ⊢
          have BT := hid hb5
          have BZ := hid (HBr.out.kept k5 (fun _ h => h))
          have K5 := hid (KWr.out.trans k5 (fun _ _ h => h))
          clear hb5 k5 CTU
          have hnb3 := HN3.out
          go_wp2
          go_loopw [102] (JtR w5 nb) (fun i _ => nb - (intOf i).toNat)
          case atStart => exact ⟨0, Nat.zero_le _, rfl, hid (Kp.refl _ _)⟩
          case round =>
            obtain ⟨j, hj, rfl, HK⟩ := hrel
            by_cases hlt : j < nb
            · obtain ⟨g6, o6, c6, e6, n6, m6, q6⟩ := by_pos (n := nb) BT.out (by rw [turnB_length]; exact HNB.out) (by omega)
              obtain ⟨g7, o7, c7, e7, n7, m7, q7⟩ := by_pos BZ.out HNB.out (by omega)
              injection e6 with a1 a2 a3
              injection e7 with b1 b2 b3
              subst a1 a3 b1 b3
              clear a2 b2
              have t6 := q6 j hlt
              have t7 := q7 j hlt
              obtain ⟨z, hz⟩ : ∃ z, zs[j]?.getD 0 = z := ⟨_, rfl⟩
              rw [hz] at t7
              unfold maxLen at m6 m7
              have BD := hid (show j < nb ∧ nb ≤ 3000 from ⟨hlt, HN3.out⟩)
              have BN := hid (show nb ≤ d6 ∧ nb ≤ db from ⟨n6, n7⟩)
              by_cases hat : (j : Int) = a
              · obtain ⟨tz, htz⟩ : ∃ t, bits .xor .u8 z x = t := ⟨_, rfl⟩
                have e6 : (turnB zs a x)[j]?.getD 0 = tz := by
                  unfold turnB
                  rw [if_pos (by rw [HNB.out]; omega), ← hat, Int.toNat_natCast, List.getElem?_set_self (by rw [HNB.out]; exact hlt), Option.getD_some, hz, htz]
                rw [e6] at t6
                have C6 := hid t6
                have C7 := hid t7
                have HXR := hid htz
                clear t6 t7 q6 q7 hz htz e6 m6 m7 n6 n7
                subst hat
                go_upto_region 22 with fail
                refine region_vals2 [none, none, none, none, none, none, none, none, none, none, none, none, none, none, none, none, none, none, none, none, none, none, none, none, none, none, none, none, none, none, none, none, none, none, none, none, none, none, none, none, none, none, none, none, none, none, none, none, none, none, none, none, none, none, none, none, none, none, none, none, none, none, none, none, none, none, none, none, none, none, none, none, none, none, none, none, none, none, none, none, none, none, none, none, none, none, none, none, none, none, none, none, none, none, none, none, none, none, none, none, none, none, none, none, none, some 0, some 1, some 2, some 3, some 4, some 5, some 6, some 7, some 8, some 9, some 10, some 11, some 12, some 13, some 14, some 15, some 16, some 17, some 18, some 19, some 20, some 21, some 22, some 23, some 24, some 25, some 26, some 27, some 28, some 29, some 30, some 31, none] [[(16, none)], [(5, none)], [(105, some 0), (106, some 1)], [(107, some 2)], [(15, none)], [(16, none)], [(109, some 4), (110, some 5)], [(111, some 6)], [(3, none)], [(16, none)], [(113, some 8), (114, some 9)], [(115, some 10)], [(6, none)], [(116, some 11), (117, some 12)], [(112, some 7), (118, some 13)], [(108, some 3), (119, some 14)], [(120, some 15)], [(16, none)], [(5, none)], [(122, some 17), (123, some 18)], [(124, some 19)], [(15, none)], [(16, none)], [(126, some 21), (127, some 22)], [(128, some 23)], [(3, none)], [(16, none)], [(130, some 25), (131, some 26)], [(132, some 27)], [(129, some 24), (133, some 28)], [(125, some 20), (134, some 29)], [(121, some 16), (135, some 30)]] [some 105, some 106, some 107, some 108, some 109, some 110, some 111, some 112, some 113, some 114, some 115, some 116, some 117, some 118, some 119, some 120, some 121, some 122, some 123, some 124, some 125, some 126, some 127, some 128, some 129, some 130, some 131, some 132, some 133, some 134, some 135, some 136] [.int .i64 (j : Int), .int .i64 (j : Int), .bool true, .bool true, .slice (some ⟨g6, o6, none⟩) nb d6, .int .i64 (j : Int), .pointer (some ⟨g6, o6 + j, none⟩), .int .u8 tz, .slice (some ⟨g7, o7, none⟩) nb db, .int .i64 (j : Int), .pointer (some ⟨g7, o7 + j, none⟩), .int .u8 z, .int .u8 x, .int .u8 tz, .bool false, .bool false, .bool false, .int .i64 (j : Int), .int .i64 (j : Int), .bool false, .bool false, undef, undef, undef, undef, undef, undef, undef, undef, undef, .bool false, .bool false] (fun w' => Hid (Kp Nb w5 w')) (by kernel_rfl) (by kernel_rfl) (by kernel_rfl) ?hS (VFrom.all (n := 32) (by kernel_rfl) ?hstep) ?hend
                case hstep =>
                  refine VFrom.cons (VStep.val _ rfl _ rfl (.int .i64 (j : Int)) rfl trivial (fun ev wq hS he hr => ?_)) ?_
                  · have r0 : ev (.tmp 16) = .int .i64 (j : Int) := hr (16, none) (by simp); have hk := he.1; clear hr he
                    go_simp
                  refine VFrom.cons (VStep.val _ rfl _ rfl (.int .i64 (j : Int)) rfl trivial (fun ev wq hS he hr => ?_)) ?_
                  · have r0 : ev (.tmp 5) = .int .i64 (j : Int) := hr (5, none) (by simp); have hk := he.1; clear hr he
                    go_simp
                  refine VFrom.cons (VStep.val _ rfl _ rfl (.bool true) rfl trivial (fun ev wq hS he hr => ?_)) ?_
                  · have r0 : ev (.tmp 105) = .int .i64 (j : Int) := hr (105, some 0) (by simp); have r1 : ev (.tmp 106) = .int .i64 (j : Int) := hr (106, some 1) (by simp); have hk := he.1; clear hr he
                    go_simp
                  refine VFrom.cons (VStep.val _ rfl _ rfl (.bool true) rfl trivial (fun ev wq hS he hr => ?_)) ?_
                  · have r0 : ev (.tmp 107) = .bool true := hr (107, some 2) (by simp); have hk := he.1; clear hr he
                    go_simp
                  refine VFrom.cons (VStep.val _ rfl _ rfl (.slice (some ⟨g6, o6, none⟩) nb d6) rfl rfl (fun ev wq hS he hr => ?_)) ?_
                  · have r0 : ev (.tmp 15) = .slice (some ⟨g6, o6, none⟩) nb d6 := hr (15, none) (by simp); have hk := he.1; clear hr he
                    go_simp
                  refine VFrom.cons (VStep.val _ rfl _ rfl (.int .i64 (j : Int)) rfl rfl (fun ev wq hS he hr => ?_)) ?_
                  · have r0 : ev (.tmp 16) = .int .i64 (j : Int) := hr (16, none) (by simp); have hk := he.1; clear hr he
                    go_simp
                  refine VFrom.cons (VStep.val _ rfl _ rfl (.pointer (some ⟨g6, o6 + j, none⟩)) rfl rfl (fun ev wq hS he hr => ?_)) ?_
                  · have r0 : ev (.tmp 109) = .slice (some ⟨g6, o6, none⟩) nb d6 := hr (109, some 4) (by simp); have r1 : ev (.tmp 110) = .int .i64 (j : Int) := hr (110, some 5) (by simp); have hk := he.1; clear hr he
                    have e1 := BD.out; have e2 := BN.out
                    go_simp
                  refine VFrom.cons (VStep.val _ rfl _ rfl (.int .u8 tz) rfl rfl (fun ev wq hS he hr => ?_)) ?_
                  · have r0 : ev (.tmp 111) = .pointer (some ⟨g6, o6 + j, none⟩) := hr (111, some 6) (by simp); have hk := he.1; clear hr he
                    have c0 := hS.out.cell C6.out (fun h => h)
                    go_simp
                  refine VFrom.cons (VStep.val _ rfl _ rfl (.slice (some ⟨g7, o7, none⟩) nb db) rfl rfl (fun ev wq hS he hr => ?_)) ?_
                  · have r0 : ev (.tmp 3) = .slice (some ⟨g7, o7, none⟩) nb db := hr (3, none) (by simp); have hk := he.1; clear hr he
                    go_simp
                  refine VFrom.cons (VStep.val _ rfl _ rfl (.int .i64 (j : Int)) rfl rfl (fun ev wq hS he hr => ?_)) ?_
                  · have r0 : ev (.tmp 16) = .int .i64 (j : Int) := hr (16, none) (by simp); have hk := he.1; clear hr he
                    go_simp
                  refine VFrom.cons (VStep.val _ rfl _ rfl (.pointer (some ⟨g7, o7 + j, none⟩)) rfl rfl (fun ev wq hS he hr => ?_)) ?_
                  · have r0 : ev (.tmp 113) = .slice (some ⟨g7, o7, none⟩) nb db := hr (113, some 8) (by simp); have r1 : ev (.tmp 114) = .int .i64 (j : Int) := hr (114, some 9) (by simp); have hk := he.1; clear hr he
                    have e1 := BD.out; have e2 := BN.out
                    go_simp
                  refine VFrom.cons (VStep.val _ rfl _ rfl (.int .u8 z) rfl rfl (fun ev wq hS he hr => ?_)) ?_
                  · have r0 : ev (.tmp 115) = .pointer (some ⟨g7, o7 + j, none⟩) := hr (115, some 10) (by simp); have hk := he.1; clear hr he
                    have c0 := hS.out.cell C7.out (fun h => h)
                    go_simp
                  refine VFrom.cons (VStep.val _ rfl _ rfl (.int .u8 x) rfl rfl (fun ev wq hS he hr => ?_)) ?_
                  · have r0 : ev (.tmp 6) = .int .u8 x := hr (6, none) (by simp); have hk := he.1; clear hr he
                    go_simp
                  refine VFrom.cons (VStep.val _ rfl _ rfl (.int .u8 tz) rfl rfl (fun ev wq hS he hr => ?_)) ?_
                  · have r0 : ev (.tmp 116) = .int .u8 z := hr (116, some 11) (by simp); have r1 : ev (.tmp 117) = .int .u8 x := hr (117, some 12) (by simp); have hk := he.1; clear hr he
                    have e1 := HXR.out
                    go_simp
                  refine VFrom.cons (VStep.val _ rfl _ rfl (.bool false) rfl rfl (fun ev wq hS he hr => ?_)) ?_
                  · have r0 : ev (.tmp 112) = .int .u8 tz := hr (112, some 7) (by simp); have r1 : ev (.tmp 118) = .int .u8 tz := hr (118, some 13) (by simp); have hk := he.1; clear hr he
                    go_simp
                  refine VFrom.cons (VStep.val _ rfl _ rfl (.bool false) rfl trivial (fun ev wq hS he hr => ?_)) ?_
                  · have r0 : ev (.tmp 108) = .bool true := hr (108, some 3) (by simp); have r1 : ev (.tmp 119) = .bool false := hr (119, some 14) (by simp); have hk := he.1; clear hr he
                    go_simp
                  refine VFrom.cons (VStep.val _ rfl _ rfl (.bool false) rfl trivial (fun ev wq hS he hr => ?_)) ?_
                  · have r0 : ev (.tmp 120) = .bool false := hr (120, some 15) (by simp); have hk := he.1; clear hr he
                    go_simp
                  refine VFrom.cons (VStep.val _ rfl _ rfl (.int .i64 (j : Int)) rfl rfl (fun ev wq hS he hr => ?_)) ?_
                  · have r0 : ev (.tmp 16) = .int .i64 (j : Int) := hr (16, none) (by simp); have hk := he.1; clear hr he
                    go_simp
                  refine VFrom.cons (VStep.val _ rfl _ rfl (.int .i64 (j : Int)) rfl rfl (fun ev wq hS he hr => ?_)) ?_
                  · have r0 : ev (.tmp 5) = .int .i64 (j : Int) := hr (5, none) (by simp); have hk := he.1; clear hr he
                    go_simp
                  refine VFrom.cons (VStep.val _ rfl _ rfl (.bool false) rfl rfl (fun ev wq hS he hr => ?_)) ?_
                  · have r0 : ev (.tmp 122) = .int .i64 (j : Int) := hr (122, some 17) (by simp); have r1 : ev (.tmp 123) = .int .i64 (j : Int) := hr (123, some 18) (by simp); have hk := he.1; clear hr he
                    go_simp
                  refine VFrom.cons (VStep.val _ rfl _ rfl (.bool false) rfl rfl (fun ev wq hS he hr => ?_)) ?_
                  · have r0 : ev (.tmp 124) = .bool false := hr (124, some 19) (by simp); have hk := he.1; clear hr he
                    go_simp
                  refine VFrom.cons (VStep.skip _ rfl rfl rfl) ?_
                  refine VFrom.cons (VStep.skip _ rfl rfl rfl) ?_
                  refine VFrom.cons (VStep.skip _ rfl rfl rfl) ?_
                  refine VFrom.cons (VStep.skip _ rfl rfl rfl) ?_
                  refine VFrom.cons (VStep.skip _ rfl rfl rfl) ?_
                  refine VFrom.cons (VStep.skip _ rfl rfl rfl) ?_
                  refine VFrom.cons (VStep.skip _ rfl rfl rfl) ?_
                  refine VFrom.cons (VStep.skip _ rfl rfl rfl) ?_
                  refine VFrom.cons (VStep.skip _ rfl rfl rfl) ?_
                  refine VFrom.cons (VStep.val _ rfl _ rfl (.bool false) rfl rfl (fun ev wq hS he hr => ?_)) ?_
                  · have r0 : ev (.tmp 125) = .bool false := hr (125, some 20) (by simp); have r1 : ev (.tmp 134) = undef := hr (134, some 29) (by simp); have hk := he.1; clear hr he
                    go_simp
                  refine VFrom.cons (VStep.val _ rfl _ rfl (.bool false) rfl trivial (fun ev wq hS he hr => ?_)) ?_
                  · have r0 : ev (.tmp 121) = .bool false := hr (121, some 16) (by simp); have r1 : ev (.tmp 135) = .bool false := hr (135, some 30) (by simp); have hk := he.1; clear hr he
                    go_simp
                  exact VFrom.nil
                case hS => exact hid HK.out.drew
                case hend =>
                  intro wy hy
                  have K9 := hid hy.out
                  clear hy
                  have hb1 := BD.out.1
                  have hb2 := BD.out.2
                  simp only [putAll, List.zip_cons_cons, List.zip_nil_right, List.foldl_cons, List.foldl_nil, Act.put, List.setIfInBounds_toArray, List.set_cons_zero, List.set_cons_succ]
                  go_wp2
                  go_roundw
                  case rel => exact ⟨j + 1, by have := BD.out; omega, by go_num, K9⟩
                  case measure => simp [intOf]; have := BD.out; omega
              · have e6 : (turnB zs a x)[j]?.getD 0 = z := by
                  unfold turnB
                  split
                  · rw [List.getElem?_set_ne (by omega), hz]
                  · exact hz
                rw [e6] at t6
                obtain ⟨tz, htz⟩ : ∃ t, z = t := ⟨_, rfl⟩
                rw [htz] at t6 t7
                have C6 := hid t6
                have C7 := hid t7
                have NE : Hid (((j : Int) == a) = false) := hid (by simpa using hat)
                have NE' : Hid (((j : Int) != a) = true) := hid (by simpa using hat)
                clear t6 t7 q6 q7 hz htz e6 m6 m7 n6 n7 hat
                go_upto_region 22 with fail
                refine region_vals2 [none, none, none, none, none, none, none, none, none, none, none, none, none, none, none, none, none, none, none, none, none, none, none, none, none, none, none, none, none, none, none, none, none, none, none, none, none, none, none, none, none, none, none, none, none, none, none, none, none, none, none, none, none, none, none, none, none, none, none, none, none, none, none, none, none, none, none, none, none, none, none, none, none, none, none, none, none, none, none, none, none, none, none, none, none, none, none, none, none, none, none, none, none, none, none, none, none, none, none, none, none, none, none, none, none, some 0, some 1, some 2, some 3, some 4, some 5, some 6, some 7, some 8, some 9, some 10, some 11, some 12, some 13, some 14, some 15, some 16, some 17, some 18, some 19, some 20, some 21, some 22, some 23, some 24, some 25, some 26, some 27, some 28, some 29, some 30, some 31, none] [[(16, none)], [(5, none)], [(105, some 0), (106, some 1)], [(107, some 2)], [(15, none)], [(16, none)], [(109, some 4), (110, some 5)], [(111, some 6)], [(3, none)], [(16, none)], [(113, some 8), (114, some 9)], [(115, some 10)], [(6, none)], [(116, some 11), (117, some 12)], [(112, some 7), (118, some 13)], [(108, some 3), (119, some 14)], [(120, some 15)], [(16, none)], [(5, none)], [(122, some 17), (123, some 18)], [(124, some 19)], [(15, none)], [(16, none)], [(126, some 21), (127, some 22)], [(128, some 23)], [(3, none)], [(16, none)], [(130, some 25), (131, some 26)], [(132, some 27)], [(129, some 24), (133, some 28)], [(125, some 20), (134, some 29)], [(121, some 16), (135, some 30)]] [some 105, some 106, some 107, some 108, some 109, some 110, some 111, some 112, some 113, some 114, some 115, some 116, some 117, some 118, some 119, some 120, some 121, some 122, some 123, some 124, some 125, some 126, some 127, some 128, some 129, some 130, some 131, some 132, some 133, some 134, some 135, some 136] [.int .i64 (j : Int), .int .i64 a, .bool false, .bool false, undef, undef, undef, undef, undef, undef, undef, undef, undef, undef, undef, .bool false, .bool false, .int .i64 (j : Int), .int .i64 a, .bool true, .bool true, .slice (some ⟨g6, o6, none⟩) nb d6, .int .i64 (j : Int), .pointer (some ⟨g6, o6 + j, none⟩), .int .u8 tz, .slice (some ⟨g7, o7, none⟩) nb db, .int .i64 (j : Int), .pointer (some ⟨g7, o7 + j, none⟩), .int .u8 tz, .bool false, .bool false, .bool false] (fun w' => Hid (Kp Nb w5 w')) (by kernel_rfl) (by kernel_rfl) (by kernel_rfl) ?hS (VFrom.all (n := 32) (by kernel_rfl) ?hstep) ?hend
                case hstep =>
                  refine VFrom.cons (VStep.val _ rfl _ rfl (.int .i64 (j : Int)) rfl trivial (fun ev wq hS he hr => ?_)) ?_
                  · have r0 : ev (.tmp 16) = .int .i64 (j : Int) := hr (16, none) (by simp); have hk := he.1; clear hr he
                    go_simp
                  refine VFrom.cons (VStep.val _ rfl _ rfl (.int .i64 a) rfl trivial (fun ev wq hS he hr => ?_)) ?_
                  · have r0 : ev (.tmp 5) = .int .i64 a := hr (5, none) (by simp); have hk := he.1; clear hr he
                    go_simp
                  refine VFrom.cons (VStep.val _ rfl _ rfl (.bool false) rfl trivial (fun ev wq hS he hr => ?_)) ?_
                  · have r0 : ev (.tmp 105) = .int .i64 (j : Int) := hr (105, some 0) (by simp); have r1 : ev (.tmp 106) = .int .i64 a := hr (106, some 1) (by simp); have hk := he.1; clear hr he
                    have e1 := NE.out
                    go_simp
                  refine VFrom.cons (VStep.val _ rfl _ rfl (.bool false) rfl trivial (fun ev wq hS he hr => ?_)) ?_
                  · have r0 : ev (.tmp 107) = .bool false := hr (107, some 2) (by simp); have hk := he.1; clear hr he
                    go_simp
                  refine VFrom.cons (VStep.skip _ rfl rfl rfl) ?_
                  refine VFrom.cons (VStep.skip _ rfl rfl rfl) ?_
                  refine VFrom.cons (VStep.skip _ rfl rfl rfl) ?_
                  refine VFrom.cons (VStep.skip _ rfl rfl rfl) ?_
                  refine VFrom.cons (VStep.skip _ rfl rfl rfl) ?_
                  refine VFrom.cons (VStep.skip _ rfl rfl rfl) ?_
                  refine VFrom.cons (VStep.skip _ rfl rfl rfl) ?_
                  refine VFrom.cons (VStep.skip _ rfl rfl rfl) ?_
                  refine VFrom.cons (VStep.skip _ rfl rfl rfl) ?_
                  refine VFrom.cons (VStep.skip _ rfl rfl rfl) ?_
                  refine VFrom.cons (VStep.skip _ rfl rfl rfl) ?_
                  refine VFrom.cons (VStep.val _ rfl _ rfl (.bool false) rfl trivial (fun ev wq hS he hr => ?_)) ?_
                  · have r0 : ev (.tmp 108) = .bool false := hr (108, some 3) (by simp); have r1 : ev (.tmp 119) = undef := hr (119, some 14) (by simp); have hk := he.1; clear hr he
                    go_simp
                  refine VFrom.cons (VStep.val _ rfl _ rfl (.bool false) rfl trivial (fun ev wq hS he hr => ?_)) ?_
                  · have r0 : ev (.tmp 120) = .bool false := hr (120, some 15) (by simp); have hk := he.1; clear hr he
                    go_simp
                  refine VFrom.cons (VStep.val _ rfl _ rfl (.int .i64 (j : Int)) rfl rfl (fun ev wq hS he hr => ?_)) ?_
                  · have r0 : ev (.tmp 16) = .int .i64 (j : Int) := hr (16, none) (by simp); have hk := he.1; clear hr he
                    go_simp
                  refine VFrom.cons (VStep.val _ rfl _ rfl (.int .i64 a) rfl rfl (fun ev wq hS he hr => ?_)) ?_
                  · have r0 : ev (.tmp 5) = .int .i64 a := hr (5, none) (by simp); have hk := he.1; clear hr he
                    go_simp
                  refine VFrom.cons (VStep.val _ rfl _ rfl (.bool true) rfl rfl (fun ev wq hS he hr => ?_)) ?_
                  · have r0 : ev (.tmp 122) = .int .i64 (j : Int) := hr (122, some 17) (by simp); have r1 : ev (.tmp 123) = .int .i64 a := hr (123, some 18) (by simp); have hk := he.1; clear hr he
                    have e1 := NE'.out
                    go_simp
                  refine VFrom.cons (VStep.val _ rfl _ rfl (.bool true) rfl rfl (fun ev wq hS he hr => ?_)) ?_
                  · have r0 : ev (.tmp 124) = .bool true := hr (124, some 19) (by simp); have hk := he.1; clear hr he
                    go_simp
                  refine VFrom.cons (VStep.val _ rfl _ rfl (.slice (some ⟨g6, o6, none⟩) nb d6) rfl rfl (fun ev wq hS he hr => ?_)) ?_
                  · have r0 : ev (.tmp 15) = .slice (some ⟨g6, o6, none⟩) nb d6 := hr (15, none) (by simp); have hk := he.1; clear hr he
                    go_simp
                  refine VFrom.cons (VStep.val _ rfl _ rfl (.int .i64 (j : Int)) rfl rfl (fun ev wq hS he hr => ?_)) ?_
                  · have r0 : ev (.tmp 16) = .int .i64 (j : Int) := hr (16, none) (by simp); have hk := he.1; clear hr he
                    go_simp
                  refine VFrom.cons (VStep.val _ rfl _ rfl (.pointer (some ⟨g6, o6 + j, none⟩)) rfl rfl (fun ev wq hS he hr => ?_)) ?_
                  · have r0 : ev (.tmp 126) = .slice (some ⟨g6, o6, none⟩) nb d6 := hr (126, some 21) (by simp); have r1 : ev (.tmp 127) = .int .i64 (j : Int) := hr (127, some 22) (by simp); have hk := he.1; clear hr he
                    have e1 := BD.out; have e2 := BN.out
                    go_simp
                  refine VFrom.cons (VStep.val _ rfl _ rfl (.int .u8 tz) rfl rfl (fun ev wq hS he hr => ?_)) ?_
                  · have r0 : ev (.tmp 128) = .pointer (some ⟨g6, o6 + j, none⟩) := hr (128, some 23) (by simp); have hk := he.1; clear hr he
                    have c0 := hS.out.cell C6.out (fun h => h)
                    go_simp
                  refine VFrom.cons (VStep.val _ rfl _ rfl (.slice (some ⟨g7, o7, none⟩) nb db) rfl rfl (fun ev wq hS he hr => ?_)) ?_
                  · have r0 : ev (.tmp 3) = .slice (some ⟨g7, o7, none⟩) nb db := hr (3, none) (by simp); have hk := he.1; clear hr he
                    go_simp
                  refine VFrom.cons (VStep.val _ rfl _ rfl (.int .i64 (j : Int)) rfl rfl (fun ev wq hS he hr => ?_)) ?_
                  · have r0 : ev (.tmp 16) = .int .i64 (j : Int) := hr (16, none) (by simp); have hk := he.1; clear hr he
                    go_simp
                  refine VFrom.cons (VStep.val _ rfl _ rfl (.pointer (some ⟨g7, o7 + j, none⟩)) rfl rfl (fun ev wq hS he hr => ?_)) ?_
                  · have r0 : ev (.tmp 130) = .slice (some ⟨g7, o7, none⟩) nb db := hr (130, some 25) (by simp); have r1 : ev (.tmp 131) = .int .i64 (j : Int) := hr (131, some 26) (by simp); have hk := he.1; clear hr he
                    have e1 := BD.out; have e2 := BN.out
                    go_simp
                  refine VFrom.cons (VStep.val _ rfl _ rfl (.int .u8 tz) rfl rfl (fun ev wq hS he hr => ?_)) ?_
                  · have r0 : ev (.tmp 132) = .pointer (some ⟨g7, o7 + j, none⟩) := hr (132, some 27) (by simp); have hk := he.1; clear hr he
                    have c0 := hS.out.cell C7.out (fun h => h)
                    go_simp
                  refine VFrom.cons (VStep.val _ rfl _ rfl (.bool false) rfl rfl (fun ev wq hS he hr => ?_)) ?_
                  · have r0 : ev (.tmp 129) = .int .u8 tz := hr (129, some 24) (by simp); have r1 : ev (.tmp 133) = .int .u8 tz := hr (133, some 28) (by simp); have hk := he.1; clear hr he
                    go_simp
                  refine VFrom.cons (VStep.val _ rfl _ rfl (.bool false) rfl rfl (fun ev wq hS he hr => ?_)) ?_
                  · have r0 : ev (.tmp 125) = .bool true := hr (125, some 20) (by simp); have r1 : ev (.tmp 134) = .bool false := hr (134, some 29) (by simp); have hk := he.1; clear hr he
                    go_simp
                  refine VFrom.cons (VStep.val _ rfl _ rfl (.bool false) rfl trivial (fun ev wq hS he hr => ?_)) ?_
                  · have r0 : ev (.tmp 121) = .bool false := hr (121, some 16) (by simp); have r1 : ev (.tmp 135) = .bool false := hr (135, some 30) (by simp); have hk := he.1; clear hr he
                    go_simp
                  exact VFrom.nil
                case hS => exact hid HK.out.drew
                case hend =>
                  intro wy hy
                  have K9 := hid hy.out
                  clear hy
                  have hb1 := BD.out.1
                  have hb2 := BD.out.2
                  simp only [putAll, List.zip_cons_cons, List.zip_nil_right, List.foldl_cons, List.foldl_nil, Act.put, List.setIfInBounds_toArray, List.set_cons_zero, List.set_cons_succ]
                  go_wp2
                  go_roundw
                  case rel => exact ⟨j + 1, by have := BD.out; omega, by go_num, K9⟩
                  case measure => simp [intOf]; have := BD.out; omega
            · obtain rfl : j = nb := by omega
              have K9 := hid (K5.out.trans HK.out (fun _ _ h => h))
              go_wp2
              go_ret
              exact ⟨rfl, K9.out⟩
      · have c1 : decide ((n : Int) < (M : Int)) = false := decide_eq_false (by omega)
        have enx : n = nx := by
          rcases HLE.out with h3 | ⟨h3, -⟩
          · omega
          · omega
        subst enx
        go_wp2_with fail
        refine (CTU.out _ HBr.out).mono ?_
        rintro e w5 ⟨v15, rfl, hb5, k5⟩
        obtain ⟨y6, d6, rfl⟩ := hb5.shp
        rw [turnB_length, HNB.out] at hb5 ⊢
        have BT := hid hb5
        have BZ := hid (HBr.out.kept k5 (fun _ h => h))
        have K5 := hid (KWr.out.trans k5 (fun _ _ h => h))
        clear hb5 k5 CTU
        have hnb3 := HN3.out
        go_wp2
        go_loopw [102] (JtR w5 nb) (fun i _ => nb - (intOf i).toNat)
        case atStart => exact ⟨0, Nat.zero_le _, rfl, hid (Kp.refl _ _)⟩
        case round =>
          obtain ⟨j, hj, rfl, HK⟩ := hrel
          by_cases hlt : j < nb
          · obtain ⟨g6, o6, c6, e6, n6, m6, q6⟩ := by_pos (n := nb) BT.out (by rw [turnB_length]; exact HNB.out) (by omega)
            obtain ⟨g7, o7, c7, e7, n7, m7, q7⟩ := by_pos BZ.out HNB.out (by omega)
            injection e6 with a1 a2 a3
            injection e7 with b1 b2 b3
            subst a1 a3 b1 b3
            clear a2 b2
            have t6 := q6 j hlt
            have t7 := q7 j hlt
            obtain ⟨z, hz⟩ : ∃ z, zs[j]?.getD 0 = z := ⟨_, rfl⟩
            rw [hz] at t7
            unfold maxLen at m6 m7
            have BD := hid (show j < nb ∧ nb ≤ 3000 from ⟨hlt, HN3.out⟩)
            have BN := hid (show nb ≤ d6 ∧ nb ≤ db from ⟨n6, n7⟩)
            by_cases hat : (j : Int) = a
            · obtain ⟨tz, htz⟩ : ∃ t, bits .xor .u8 z x = t := ⟨_, rfl⟩
              have e6 : (turnB zs a x)[j]?.getD 0 = tz := by
                unfold turnB
                rw [if_pos (by rw [HNB.out]; omega), ← hat, Int.toNat_natCast, List.getElem?_set_self (by rw [HNB.out]; exact hlt), Option.getD_some, hz, htz]
              rw [e6] at t6
              have C6 := hid t6
              have C7 := hid t7
              have HXR := hid htz
              clear t6 t7 q6 q7 hz htz e6 m6 m7 n6 n7
              subst hat
              go_upto_region 22 with fail
              refine region_vals2 [none, none, none, none, none, none, none, none, none, none, none, none, none, none, none, none, none, none, none, none, none, none, none, none, none, none, none, none, none, none, none, none, none, none, none, none, none, none, none, none, none, none, none, none, none, none, none, none, none, none, none, none, none, none, none, none, none, none, none, none, none, none, none, none, none, none, none, none, none, none, none, none, none, none, none, none, none, none, none, none, none, none, none, none, none, none, none, none, none, none, none, none, none, none, none, none, none, none, none, none, none, none, none, none, none, some 0, some 1, some 2, some 3, some 4, some 5, some 6, some 7, some 8, some 9, some 10, some 11, some 12, some 13, some 14, some 15, some 16, some 17, some 18, some 19, some 20, some 21, some 22, some 23, some 24, some 25, some 26, some 27, some 28, some 29, some 30, some 31, none] [[(16, none)], [(5, none)], [(105, some 0), (106, some 1)], [(107, some 2)], [(15, none)], [(16, none)], [(109, some 4), (110, some 5)], [(111, some 6)], [(3, none)], [(16, none)], [(113, some 8), (114, some 9)], [(115, some 10)], [(6, none)], [(116, some 11), (117, some 12)], [(112, some 7), (118, some 13)], [(108, some 3), (119, some 14)], [(120, some 15)], [(16, none)], [(5, none)], [(122, some 17), (123, some 18)], [(124, some 19)], [(15, none)], [(16, none)], [(126, some 21), (127, some 22)], [(128, some 23)], [(3, none)], [(16, none)], [(130, some 25), (131, some 26)], [(132, some 27)], [(129, some 24), (133, some 28)], [(125, some 20), (134, some 29)], [(121, some 16), (135, some 30)]] [some 105, some 106, some 107, some 108, some 109, some 110, some 111, some 112, some 113, some 114, some 115, some 116, some 117, some 118, some 119, some 120, some 121, some 122, some 123, some 124, some 125, some 126, some 127, some 128, some 129, some 130, some 131, some 132, some 133, some 134, some 135, some 136] [.int .i64 (j : Int), .int .i64 (j : Int), .bool true, .bool true, .slice (some ⟨g6, o6, none⟩) nb d6, .int .i64 (j : Int), .pointer (some ⟨g6, o6 + j, none⟩), .int .u8 tz, .slice (some ⟨g7, o7, none⟩) nb db, .int .i64 (j : Int), .pointer (some ⟨g7, o7 + j, none⟩), .int .u8 z, .int .u8 x, .int .u8 tz, .bool false, .bool false, .bool false, .int .i64 (j : Int), .int .i64 (j : Int), .bool false, .bool false, undef, undef, undef, undef, undef, undef, undef, undef, undef, .bool false, .bool false] (fun w' => Hid (Kp Nb w5 w')) (by kernel_rfl) (by kernel_rfl) (by kernel_rfl) ?hS (VFrom.all (n := 32) (by kernel_rfl) ?hstep) ?hend
              case hstep =>
                refine VFrom.cons (VStep.val _ rfl _ rfl (.int .i64 (j : Int)) rfl trivial (fun ev wq hS he hr => ?_)) ?_
                · have r0 : ev (.tmp 16) = .int .i64 (j : Int) := hr (16, none) (by simp); have hk := he.1; clear hr he
                  go_simp
                refine VFrom.cons (VStep.val _ rfl _ rfl (.int .i64 (j : Int)) rfl trivial (fun ev wq hS he hr => ?_)) ?_
                · have r0 : ev (.tmp 5) = .int .i64 (j : Int) := hr (5, none) (by simp); have hk := he.1; clear hr he
                  go_simp
                refine VFrom.cons (VStep.val _ rfl _ rfl (.bool true) rfl trivial (fun ev wq hS he hr => ?_)) ?_
                · have r0 : ev (.tmp 105) = .int .i64 (j : Int) := hr (105, some 0) (by simp); have r1 : ev (.tmp 106) = .int .i64 (j : Int) := hr (106, some 1) (by simp); have hk := he.1; clear hr he
                  go_simp
                refine VFrom.cons (VStep.val _ rfl _ rfl (.bool true) rfl trivial (fun ev wq hS he hr => ?_)) ?_
                · have r0 : ev (.tmp 107) = .bool true := hr (107, some 2) (by simp); have hk := he.1; clear hr he
                  go_simp
                refine VFrom.cons (VStep.val _ rfl _ rfl (.slice (some ⟨g6, o6, none⟩) nb d6) rfl rfl (fun ev wq hS he hr => ?_)) ?_
                · have r0 : ev (.tmp 15) = .slice (some ⟨g6, o6, none⟩) nb d6 := hr (15, none) (by simp); have hk := he.1; clear hr he
                  go_simp
                refine VFrom.cons (VStep.val _ rfl _ rfl (.int .i64 (j : Int)) rfl rfl (fun ev wq hS he hr => ?_)) ?_
                · have r0 : ev (.tmp 16) = .int .i64 (j : Int) := hr (16, none) (by simp); have hk := he.1; clear hr he
                  go_simp
                refine VFrom.cons (VStep.val _ rfl _ rfl (.pointer (some ⟨g6, o6 + j, none⟩)) rfl rfl (fun ev wq hS he hr => ?_)) ?_
                · have r0 : ev (.tmp 109) = .slice (some ⟨g6, o6, none⟩) nb d6 := hr (109, some 4) (by simp); have r1 : ev (.tmp 110) = .int .i64 (j : Int) := hr (110, some 5) (by simp); have hk := he.1; clear hr he
                  have e1 := BD.out; have e2 := BN.out
                  go_simp
                refine VFrom.cons (VStep.val _ rfl _ rfl (.int .u8 tz) rfl rfl (fun ev wq hS he hr => ?_)) ?_
                · have r0 : ev (.tmp 111) = .pointer (some ⟨g6, o6 + j, none⟩) := hr (111, some 6) (by simp); have hk := he.1; clear hr he
                  have c0 := hS.out.cell C6.out (fun h => h)
                  go_simp
                refine VFrom.cons (VStep.val _ rfl _ rfl (.slice (some ⟨g7, o7, none⟩) nb db) rfl rfl (fun ev wq hS he hr => ?_)) ?_
                · have r0 : ev (.tmp 3) = .slice (some ⟨g7, o7, none⟩) nb db := hr (3, none) (by simp); have hk := he.1; clear hr he
                  go_simp
                refine VFrom.cons (VStep.val _ rfl _ rfl (.int .i64 (j : Int)) rfl rfl (fun ev wq hS he hr => ?_)) ?_
                · have r0 : ev (.tmp 16) = .int .i64 (j : Int) := hr (16, none) (by simp); have hk := he.1; clear hr he
                  go_simp
                refine VFrom.cons (VStep.val _ rfl _ rfl (.pointer (some ⟨g7, o7 + j, none⟩)) rfl rfl (fun ev wq hS he hr => ?_)) ?_
                · have r0 : ev (.tmp 113) = .slice (some ⟨g7, o7, none⟩) nb db := hr (113, some 8) (by simp); have r1 : ev (.tmp 114) = .int .i64 (j : Int) := hr (114, some 9) (by simp); have hk := he.1; clear hr he
                  have e1 := BD.out; have e2 := BN.out
                  go_simp
                refine VFrom.cons (VStep.val _ rfl _ rfl (.int .u8 z) rfl rfl (fun ev wq hS he hr => ?_)) ?_
                · have r0 : ev (.tmp 115) = .pointer (some ⟨g7, o7 + j, none⟩) := hr (115, some 10) (by simp); have hk := he.1; clear hr he
                  have c0 := hS.out.cell C7.out (fun h => h)
                  go_simp
                refine VFrom.cons (VStep.val _ rfl _ rfl (.int .u8 x) rfl rfl (fun ev wq hS he hr => ?_)) ?_
                · have r0 : ev (.tmp 6) = .int .u8 x := hr (6, none) (by simp); have hk := he.1; clear hr he
                  go_simp
                refine VFrom.cons (VStep.val _ rfl _ rfl (.int .u8 tz) rfl rfl (fun ev wq hS he hr => ?_)) ?_
                · have r0 : ev (.tmp 116) = .int .u8 z := hr (116, some 11) (by simp); have r1 : ev (.tmp 117) = .int .u8 x := hr (117, some 12) (by simp); have hk := he.1; clear hr he
                  have e1 := HXR.out
                  go_simp
                refine VFrom.cons (VStep.val _ rfl _ rfl (.bool false) rfl rfl (fun ev wq hS he hr => ?_)) ?_
                · have r0 : ev (.tmp 112) = .int .u8 tz := hr (112, some 7) (by simp); have r1 : ev (.tmp 118) = .int .u8 tz := hr (118, some 13) (by simp); have hk := he.1; clear hr he
                  go_simp
                refine VFrom.cons (VStep.val _ rfl _ rfl (.bool false) rfl trivial (fun ev wq hS he hr => ?_)) ?_
                · have r0 : ev (.tmp 108) = .bool true := hr (108, some 3) (by simp); have r1 : ev (.tmp 119) = .bool false := hr (119, some 14) (by simp); have hk := he.1; clear hr he
                  go_simp
                refine VFrom.cons (VStep.val _ rfl _ rfl (.bool false) rfl trivial (fun ev wq hS he hr => ?_)) ?_
                · have r0 : ev (.tmp 120) = .bool false := hr (120, some 15) (by simp); have hk := he.1; clear hr he
                  go_simp
                refine VFrom.cons (VStep.val _ rfl _ rfl (.int .i64 (j : Int)) rfl rfl (fun ev wq hS he hr => ?_)) ?_
                · have r0 : ev (.tmp 16) = .int .i64 (j : Int) := hr (16, none) (by simp); have hk := he.1; clear hr he
                  go_simp
                refine VFrom.cons (VStep.val _ rfl _ rfl (.int .i64 (j : Int)) rfl rfl (fun ev wq hS he hr => ?_)) ?_
                · have r0 : ev (.tmp 5) = .int .i64 (j : Int) := hr (5, none) (by simp); have hk := he.1; clear hr he
                  go_simp
                refine VFrom.cons (VStep.val _ rfl _ rfl (.bool false) rfl rfl (fun ev wq hS he hr => ?_)) ?_
                · have r0 : ev (.tmp 122) = .int .i64 (j : Int) := hr (122, some 17) (by simp); have r1 : ev (.tmp 123) = .int .i64 (j : Int) := hr (123, some 18) (by simp); have hk := he.1; clear hr he
                  go_simp
                refine VFrom.cons (VStep.val _ rfl _ rfl (.bool false) rfl rfl (fun ev wq hS he hr => ?_)) ?_
                · have r0 : ev (.tmp 124) = .bool false := hr (124, some 19) (by simp); have hk := he.1; clear hr he
                  go_simp
                refine VFrom.cons (VStep.skip _ rfl rfl rfl) ?_
                refine VFrom.cons (VStep.skip _ rfl rfl rfl) ?_
                refine VFrom.cons (VStep.skip _ rfl rfl rfl) ?_
                refine VFrom.cons (VStep.skip _ rfl rfl rfl) ?_
                refine VFrom.cons (VStep.skip _ rfl rfl rfl) ?_
                refine VFrom.cons (VStep.skip _ rfl rfl rfl) ?_
                refine VFrom.cons (VStep.skip _ rfl rfl rfl) ?_
                refine VFrom.cons (VStep.skip _ rfl rfl rfl) ?_
                refine VFrom.cons (VStep.skip _ rfl rfl rfl) ?_
                refine VFrom.cons (VStep.val _ rfl _ rfl (.bool false) rfl rfl (fun ev wq hS he hr => ?_)) ?_
                · have r0 : ev (.tmp 125) = .bool false := hr (125, some 20) (by simp); have r1 : ev (.tmp 134) = undef := hr (134, some 29) (by simp); have hk := he.1; clear hr he
                  go_simp
                refine VFrom.cons (VStep.val _ rfl _ rfl (.bool false) rfl trivial (fun ev wq hS he hr => ?_)) ?_
                · have r0 : ev (.tmp 121) = .bool false := hr (121, some 16) (by simp); have r1 : ev (.tmp 135) = .bool false := hr (135, some 30) (by simp); have hk := he.1; clear hr he
                  go_simp
                exact VFrom.nil
              case hS => exact hid HK.out.drew
              case hend =>
                intro wy hy
                have K9 := hid hy.out
                clear hy
                have hb1 := BD.out.1
                have hb2 := BD.out.2
                simp only [putAll, List.zip_cons_cons, List.zip_nil_right, List.foldl_cons, List.foldl_nil, Act.put, List.setIfInBounds_toArray, List.set_cons_zero, List.set_cons_succ]
                go_wp2
                go_roundw
                case rel => exact ⟨j + 1, by have := BD.out; omega, by go_num, K9⟩
                case measure => simp [intOf]; have := BD.out; omega
            · have e6 : (turnB zs a x)[j]?.getD 0 = z := by
                unfold turnB
                split
                · rw [List.getElem?_set_ne (by omega), hz]
                · exact hz
              rw [e6] at t6
              obtain ⟨tz, htz⟩ : ∃ t, z = t := ⟨_, rfl⟩
              rw [htz] at t6 t7
              have C6 := hid t6
              have C7 := hid t7
              have NE : Hid (((j : Int) == a) = false) := hid (by simpa using hat)
              have NE' : Hid (((j : Int) != a) = true) := hid (by simpa using hat)
              clear t6 t7 q6 q7 hz htz e6 m6 m7 n6 n7 hat
              go_upto_region 22 with fail
              refine region_vals2 [none, none, none, none, none, none, none, none, none, none, none, none, none, none, none, none, none, none, none, none, none, none, none, none, none, none, none, none, none, none, none, none, none, none, none, none, none, none, none, none, none, none, none, none, none, none, none, none, none, none, none, none, none, none, none, none, none, none, none, none, none, none, none, none, none, none, none, none, none, none, none, none, none, none, none, none, none, none, none, none, none, none, none, none, none, none, none, none, none, none, none, none, none, none, none, none, none, none, none, none, none, none, none, none, none, some 0, some 1, some 2, some 3, some 4, some 5, some 6, some 7, some 8, some 9, some 10, some 11, some 12, some 13, some 14, some 15, some 16, some 17, some 18, some 19, some 20, some 21, some 22, some 23, some 24, some 25, some 26, some 27, some 28, some 29, some 30, some 31, none] [[(16, none)], [(5, none)], [(105, some 0), (106, some 1)], [(107, some 2)], [(15, none)], [(16, none)], [(109, some 4), (110, some 5)], [(111, some 6)], [(3, none)], [(16, none)], [(113, some 8), (114, some 9)], [(115, some 10)], [(6, none)], [(116, some 11), (117, some 12)], [(112, some 7), (118, some 13)], [(108, some 3), (119, some 14)], [(120, some 15)], [(16, none)], [(5, none)], [(122, some 17), (123, some 18)], [(124, some 19)], [(15, none)], [(16, none)], [(126, some 21), (127, some 22)], [(128, some 23)], [(3, none)], [(16, none)], [(130, some 25), (131, some 26)], [(132, some 27)], [(129, some 24), (133, some 28)], [(125, some 20), (134, some 29)], [(121, some 16), (135, some 30)]] [some 105, some 106, some 107, some 108, some 109, some 110, some 111, some 112, some 113, some 114, some 115, some 116, some 117, some 118, some 119, some 120, some 121, some 122, some 123, some 124, some 125, some 126, some 127, some 128, some 129, some 130, some 131, some 132, some 133, some 134, some 135, some 136] [.int .i64 (j : Int), .int .i64 a, .bool false, .bool false, undef, undef, undef, undef, undef, undef, undef, undef, undef, undef, undef, .bool false, .bool false, .int .i64 (j : Int), .int .i64 a, .bool true, .bool true, .slice (some ⟨g6, o6, none⟩) nb d6, .int .i64 (j : Int), .pointer (some ⟨g6, o6 + j, none⟩), .int .u8 tz, .slice (some ⟨g7, o7, none⟩) nb db, .int .i64 (j : Int), .pointer (some ⟨g7, o7 + j, none⟩), .int .u8 tz, .bool false, .bool false, .bool false] (fun w' => Hid (Kp Nb w5 w')) (by kernel_rfl) (by kernel_rfl) (by kernel_rfl) ?hS (VFrom.all (n := 32) (by kernel_rfl) ?hstep) ?hend
              case hstep =>
                refine VFrom.cons (VStep.val _ rfl _ rfl (.int .i64 (j : Int)) rfl trivial (fun ev wq hS he hr => ?_)) ?_
                · have r0 : ev (.tmp 16) = .int .i64 (j : Int) := hr (16, none) (by simp); have hk := he.1; clear hr he
                  go_simp
                refine VFrom.cons (VStep.val _ rfl _ rfl (.int .i64 a) rfl trivial (fun ev wq hS he hr => ?_)) ?_
                · have r0 : ev (.tmp 5) = .int .i64 a := hr (5, none) (by simp); have hk := he.1; clear hr he
                  go_simp
                refine VFrom.cons (VStep.val _ rfl _ rfl (.bool false) rfl trivial (fun ev wq hS he hr => ?_)) ?_
                · have r0 : ev (.tmp 105) = .int .i64 (j : Int) := hr (105, some 0) (by simp); have r1 : ev (.tmp 106) = .int .i64 a := hr (106, some 1) (by simp); have hk := he.1; clear hr he
                  have e1 := NE.out
                  go_simp
                refine VFrom.cons (VStep.val _ rfl _ rfl (.bool false) rfl trivial (fun ev wq hS he hr => ?_)) ?_
                · have r0 : ev (.tmp 107) = .bool false := hr (107, some 2) (by simp); have hk := he.1; clear hr he
                  go_simp
                refine VFrom.cons (VStep.skip _ rfl rfl rfl) ?_
                refine VFrom.cons (VStep.skip _ rfl rfl rfl) ?_
                refine VFrom.cons (VStep.skip _ rfl rfl rfl) ?_
                refine VFrom.cons (VStep.skip _ rfl rfl rfl) ?_
                refine VFrom.cons (VStep.skip _ rfl rfl rfl) ?_
                refine VFrom.cons (VStep.skip _ rfl rfl rfl) ?_
                refine VFrom.cons (VStep.skip _ rfl rfl rfl) ?_
                refine VFrom.cons (VStep.skip _ rfl rfl rfl) ?_
                refine VFrom.cons (VStep.skip _ rfl rfl rfl) ?_
                refine VFrom.cons (VStep.skip _ rfl rfl rfl) ?_
                refine VFrom.cons (VStep.skip _ rfl rfl rfl) ?_
                refine VFrom.cons (VStep.val _ rfl _ rfl (.bool false) rfl trivial (fun ev wq hS he hr => ?_)) ?_
                · have r0 : ev (.tmp 108) = .bool false := hr (108, some 3) (by simp); have r1 : ev (.tmp 119) = undef := hr (119, some 14) (by simp); have hk := he.1; clear hr he
                  go_simp
                refine VFrom.cons (VStep.val _ rfl _ rfl (.bool false) rfl trivial (fun ev wq hS he hr => ?_)) ?_
                · have r0 : ev (.tmp 120) = .bool false := hr (120, some 15) (by simp); have hk := he.1; clear hr he
                  go_simp
                refine VFrom.cons (VStep.val _ rfl _ rfl (.int .i64 (j : Int)) rfl rfl (fun ev wq hS he hr => ?_)) ?_
                · have r0 : ev (.tmp 16) = .int .i64 (j : Int) := hr (16, none) (by simp); have hk := he.1; clear hr he
                  go_simp
                refine VFrom.cons (VStep.val _ rfl _ rfl (.int .i64 a) rfl rfl (fun ev wq hS he hr => ?_)) ?_
                · have r0 : ev (.tmp 5) = .int .i64 a := hr (5, none) (by simp); have hk := he.1; clear hr he
                  go_simp
                refine VFrom.cons (VStep.val _ rfl _ rfl (.bool true) rfl rfl (fun ev wq hS he hr => ?_)) ?_
                · have r0 : ev (.tmp 122) = .int .i64 (j : Int) := hr (122, some 17) (by simp); have r1 : ev (.tmp 123) = .int .i64 a := hr (123, some 18) (by simp); have hk := he.1; clear hr he
                  have e1 := NE'.out
                  go_simp
                refine VFrom.cons (VStep.val _ rfl _ rfl (.bool true) rfl rfl (fun ev wq hS he hr => ?_)) ?_
                · have r0 : ev (.tmp 124) = .bool true := hr (124, some 19) (by simp); have hk := he.1; clear hr he
                  go_simp
                refine VFrom.cons (VStep.val _ rfl _ rfl (.slice (some ⟨g6, o6, none⟩) nb d6) rfl rfl (fun ev wq hS he hr => ?_)) ?_
                · have r0 : ev (.tmp 15) = .slice (some ⟨g6, o6, none⟩) nb d6 := hr (15, none) (by simp); have hk := he.1; clear hr he
                  go_simp
                refine VFrom.cons (VStep.val _ rfl _ rfl (.int .i64 (j : Int)) rfl rfl (fun ev wq hS he hr => ?_)) ?_
                · have r0 : ev (.tmp 16) = .int .i64 (j : Int) := hr (16, none) (by simp); have hk := he.1; clear hr he
                  go_simp
                refine VFrom.cons (VStep.val _ rfl _ rfl (.pointer (some ⟨g6, o6 + j, none⟩)) rfl rfl (fun ev wq hS he hr => ?_)) ?_
                · have r0 : ev (.tmp 126) = .slice (some ⟨g6, o6, none⟩) nb d6 := hr (126, some 21) (by simp); have r1 : ev (.tmp 127) = .int .i64 (j : Int) := hr (127, some 22) (by simp); have hk := he.1; clear hr he
                  have e1 := BD.out; have e2 := BN.out
                  go_simp
                refine VFrom.cons (VStep.val _ rfl _ rfl (.int .u8 tz) rfl rfl (fun ev wq hS he hr => ?_)) ?_
                · have r0 : ev (.tmp 128) = .pointer (some ⟨g6, o6 + j, none⟩) := hr (128, some 23) (by simp); have hk := he.1; clear hr he
                  have c0 := hS.out.cell C6.out (fun h => h)
                  go_simp
                refine VFrom.cons (VStep.val _ rfl _ rfl (.slice (some ⟨g7, o7, none⟩) nb db) rfl rfl (fun ev wq hS he hr => ?_)) ?_
                · have r0 : ev (.tmp 3) = .slice (some ⟨g7, o7, none⟩) nb db := hr (3, none) (by simp); have hk := he.1; clear hr he
                  go_simp
                refine VFrom.cons (VStep.val _ rfl _ rfl (.int .i64 (j : Int)) rfl rfl (fun ev wq hS he hr => ?_)) ?_
                · have r0 : ev (.tmp 16) = .int .i64 (j : Int) := hr (16, none) (by simp); have hk := he.1; clear hr he
                  go_simp
                refine VFrom.cons (VStep.val _ rfl _ rfl (.pointer (some ⟨g7, o7 + j, none⟩)) rfl rfl (fun ev wq hS he hr => ?_)) ?_
                · have r0 : ev (.tmp 130) = .slice (some ⟨g7, o7, none⟩) nb db := hr (130, some 25) (by simp); have r1 : ev (.tmp 131) = .int .i64 (j : Int) := hr (131, some 26) (by simp); have hk := he.1; clear hr he
                  have e1 := BD.out; have e2 := BN.out
                  go_simp
                refine VFrom.cons (VStep.val _ rfl _ rfl (.int .u8 tz) rfl rfl (fun ev wq hS he hr => ?_)) ?_
                · have r0 : ev (.tmp 132) = .pointer (some ⟨g7, o7 + j, none⟩) := hr (132, some 27) (by simp); have hk := he.1; clear hr he
                  have c0 := hS.out.cell C7.out (fun h => h)
                  go_simp
                refine VFrom.cons (VStep.val _ rfl _ rfl (.bool false) rfl rfl (fun ev wq hS he hr => ?_)) ?_
                · have r0 : ev (.tmp 129) = .int .u8 tz := hr (129, some 24) (by simp); have r1 : ev (.tmp 133) = .int .u8 tz := hr (133, some 28) (by simp); have hk := he.1; clear hr he
                  go_simp
                refine VFrom.cons (VStep.val _ rfl _ rfl (.bool false) rfl rfl (fun ev wq hS he hr => ?_)) ?_
                · have r0 : ev (.tmp 125) = .bool true := hr (125, some 20) (by simp); have r1 : ev (.tmp 134) = .bool false := hr (134, some 29) (by simp); have hk := he.1; clear hr he
                  go_simp
                refine VFrom.cons (VStep.val _ rfl _ rfl (.bool false) rfl trivial (fun ev wq hS he hr => ?_)) ?_
                · have r0 : ev (.tmp 121) = .bool false := hr (121, some 16) (by simp); have r1 : ev (.tmp 135) = .bool false := hr (135, some 30) (by simp); have hk := he.1; clear hr he
                  go_simp
                exact VFrom.nil
              case hS => exact hid HK.out.drew
              case hend =>
                intro wy hy
                have K9 := hid hy.out
                clear hy
                have hb1 := BD.out.1
                have hb2 := BD.out.2
                simp only [putAll, List.zip_cons_cons, List.zip_nil_right, List.foldl_cons, List.foldl_nil, Act.put, List.setIfInBounds_toArray, List.set_cons_zero, List.set_cons_succ]
                go_wp2
                go_roundw
                case rel => exact ⟨j + 1, by have := BD.out; omega, by go_num, K9⟩
                case measure => simp [intOf]; have := BD.out; omega
          · obtain rfl : j = nb := by omega
            have K9 := hid (K5.out.trans HK.out (fun _ _ h => h))
            go_wp2
            go_ret
            exact ⟨rfl, K9.out⟩

end Go.Proofs.Ytmgmghlflldepaa
