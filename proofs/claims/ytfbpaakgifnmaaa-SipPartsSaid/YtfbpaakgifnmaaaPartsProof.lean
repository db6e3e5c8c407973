/-
  PROVED: 'SipPartsSaid' of layer 1: whatever the key, the bytes and the two cuts, SipParts returns true and the input reads as it did. No condition.
-/
import Derived.Test.YtfbpaakgifnmaaaRows
import Derived.Test.YtfbpaakgifnmaaaLawParts
import Derived.Test.YtfbpaakgifnmaaaPartsNone
import Derived.Test.YtfbpaakgifnmaaaOpenIn
import Derived.Lib.SmallJoins
namespace Go.Proofs.Ytfbpaakgifnmaaa
open Go.ChangeShapes Go.WideShapes Go.ChangeAt Go.RowKit

theorem array_two {α : Type} {cs : Array α} (h : cs.size = 2) : ∃ c0 c1, cs = #[c0, c1] := by
  obtain ⟨l⟩ := cs
  match l, h with
  | [c0, c1], _ => exact ⟨c0, c1, rfl⟩
theorem cells_key : Try.prog.cellsOf 24 = 2 := by kernel_rfl
theorem cells_cut : Try.prog.cellsOf 52 = 2 := by kernel_rfl
theorem cells_u16 : Try.prog.cellsOf 51 = 1 := by kernel_rfl

set_option maxRecDepth 100000 in
theorem open_key {H : Type} {enc : TypeId × Value → H} {W : World} {base : Nat} {v : Value} {d : DataW H} {p : List MemPlace} (hv : Value.okWide Try.prog W .any base 24 v)
    (h : DataW.Trod enc Try.prog W 0 (fun _ => true) true 24 v d p) : ∃ a b : Int, v = .agg #[.int .u64 a, .int .u64 b] := by
  obtain ⟨cs, rfl, hsz⟩ := okWide_struct Try.underlying24 hv
  obtain ⟨c0, c1, rfl⟩ := array_two (hsz.trans cells_key)
  obtain ⟨fuel, hf⟩ := h
  obtain ⟨y0, y1, n, _, _, h0, h1⟩ := trod_struct2 Try.underlying24 hf
  have e8 : Try.prog.cellsOf 22 = 1 := by kernel_rfl
  obtain ⟨a, ea, _⟩ := DataW.trod_int Try.underlying22 h0
  obtain ⟨b, eb, _⟩ := DataW.trod_int Try.underlying22 h1
  simp [Value.cells, e8] at ea eb
  exact ⟨a, b, by rw [ea, eb]⟩

set_option maxRecDepth 100000 in
theorem open_cut {H : Type} {enc : TypeId × Value → H} {W : World} {base : Nat} {v : Value} {d : DataW H} {p : List MemPlace} (hv : Value.okWide Try.prog W .any base 52 v)
    (h : DataW.Trod enc Try.prog W 0 (fun _ => true) true 52 v d p) : ∃ a b : Int, v = .agg #[.int .u16 a, .int .u16 b] ∧ (0 ≤ a ∧ a < 65536) ∧ (0 ≤ b ∧ b < 65536) := by
  simp only [Value.okWide, Try.underlying52] at hv
  obtain ⟨cs, rfl, hsz, _⟩ := hv
  obtain ⟨c0, c1, rfl⟩ := array_two (hsz.trans cells_cut)
  obtain ⟨fuel, hf⟩ := h
  obtain ⟨xs, m, _, _, _, hl, hel⟩ := DataW.trod_array Try.underlying52 hf
  have h0 := hel 0 (by omega)
  have h1 := hel 1 (by omega)
  rw [cells_u16, List.getElem?_eq_getElem (by omega)] at h0 h1
  obtain ⟨a, ea, _, wa⟩ := DataW.trod_int Try.underlying51 h0
  obtain ⟨b, eb, _, wb⟩ := DataW.trod_int Try.underlying51 h1
  simp [Value.cells] at ea eb
  have ra := bounds_u16 wa
  have rb := bounds_u16 wb
  exact ⟨a, b, by rw [ea, eb], by omega, by omega⟩

set_option maxRecDepth 100000 in
theorem parts_lifted (os : Os) (started : os.Started) (H : Type) (enc : TypeId × Value → H) :
    ReturnsInHanded {} Try.checked os 5 .any (Rows.sipPartsSpec.pre6 enc Try.prog Try.f5 Rows.sipPartsRow.domain false) (Rows.sipPartsSpec.post enc Try.prog Try.f5 false true false false) := by
  refine returnsInHanded_of_change (C := Try.checked) own started (by kernel_rfl) Try.func5
    (ChangeSpec.witness6 (enc := enc) (C := Try.checked) false ⟨#[], #[.agg #[.int .u64 0, .int .u64 0], .slice none 0 0, .agg #[.int .u16 0, .int .u16 0]], []⟩ 8 (by kernel_rfl) (by kernel_rfl) (by kernel_rfl) (by kernel_rfl)) ?_
  intro W base args ds gs before hval0 hW hcnd _
  have hval : ∀ (j : Nat) t v, Try.f5.params[j]? = some t → args[j]? = some v → Value.okWide Try.prog W .any base t v := hval0
  have hW' := hW
  obtain ⟨p, q, hA0, hV, rfl, hfz, hnd⟩ := hW
  have hA : DataW.TrodAll enc Try.prog W 0 (fun _ => true) true Try.f5.params.toList args.toList ds p := hA0
  rw [Try.params5] at hA hval
  obtain ⟨v0, vs0, d0, ds0, p0, q0, hargs, rfl, rfl, h0, r0⟩ := trodAll_cons hA
  obtain ⟨v1, vs1, d1, ds1, p1, q1, rfl, rfl, rfl, h1, r1⟩ := trodAll_cons r0
  obtain ⟨v2, vs2, d2, ds2, p2, q2, rfl, rfl, rfl, h2, r2⟩ := trodAll_cons r1
  obtain ⟨rfl, rfl, rfl⟩ := trodAll_nil r2
  obtain rfl : args = #[v0, v1, v2] := by cases args; simp_all
  obtain ⟨rfl, rfl⟩ := trodVars_none hV
  have lt0 : ∀ x ∈ p0, x.block < W.heap.size := by obtain ⟨m, hm⟩ := h0; exact DataW.trod_lt m _ _ _ hm
  have lt1 : ∀ x ∈ p1, x.block < W.heap.size := by obtain ⟨m, hm⟩ := h1; exact DataW.trod_lt m _ _ _ hm
  have lt2 : ∀ x ∈ p2, x.block < W.heap.size := by obtain ⟨m, hm⟩ := h2; exact DataW.trod_lt m _ _ _ hm
  obtain ⟨a, b, rfl⟩ := open_key (hval 0 24 v0 rfl rfl) h0
  obtain ⟨c0, c1, rfl, s0, s1⟩ := open_cut (hval 2 52 v2 rfl rfl) h2
  obtain ⟨x, len, cap, rfl⟩ := okWide_slice Try.underlying42 (hval 1 42 v1 rfl rfl)
  have walk : Calls Try.prog 5 #[.agg #[.int .u64 a, .int .u64 b], .slice x len cap, .agg #[.int .u16 c0, .int .u16 c1]] W fun e w' => e = .returned (.bool true) ∧ Kp Nb W w' := by
    obtain ⟨fuel, hf⟩ := h1
    rcases open_ints Try.underlying42 Try.underlying5 cells_byte hf with ⟨hcs, _⟩ | ⟨y, l, c, zs, hcs, _, hl, hm, hz, _, hcell, hwz⟩
    · simp [Value.cells] at hcs
      obtain ⟨rfl, rfl, rfl⟩ := hcs
      exact parts_none a b c0 c1 _ _ W (by decide) s0 s1
    · simp [Value.cells] at hcs
      obtain ⟨rfl, rfl, rfl⟩ := hcs
      have hz' : zs.length = cap := by simpa using hz
      by_cases hn : len = 0
      · subst hn
        exact parts_none a b c0 c1 _ _ W hm s0 s1
      · obtain ⟨blk, off, spot⟩ := y
        have hspot : spot = none := by
          have := World.cell?_spot (hcell 0 (by omega))
          simpa [Addr.add] using this
        subst hspot
        have elen : (zs.take len).length = len := by simp; omega
        have hby : ByAt W blk off (zs.take len) := by
          intro i hi
          rw [elen] at hi
          have := hcell i (by omega)
          rw [add_none] at this
          rw [List.getElem?_take_of_lt hi]
          simpa [List.getD] using this
        have hiz : IsBytes (zs.take len) := fun i => by
          have hr := range_u8 (zs := zs.take len) (fun n hn => hwz n (List.mem_of_mem_take hn)) i
          omega
        have := parts_some a b c0 c1 blk off cap (zs.take len) W (by omega) hm (by omega) hiz hby s0 s1
        rwa [elen] at this
  clear hA0 hval0
  refine walk.mono fun e W' ⟨he, kp⟩ => ?_
  subst he
  have bel : Below W.heap.size W W' := kp.below (Nat.le_refl _) (fun _ _ h => h)
  exact ⟨_, rfl, _, _, _, [], _, [], hW', trodAll_mk1 (shut_bool Try.underlying4 _), (trodAll_cons_mk (Below.trod laidOut (by kernel_rfl) (of_decide_eq_true (by kernel_rfl)) h0 bel lt0) (trodAll_cons_mk (Below.trod laidOut (by kernel_rfl) (of_decide_eq_true (by kernel_rfl)) h1 bel lt1) (trodAll_cons_mk (Below.trod laidOut (by kernel_rfl) (of_decide_eq_true (by kernel_rfl)) h2 bel lt2) trodAll_mk0))), rfl, bel.frame _, fun h => by cases h⟩

theorem parts_over : Rows.sipPartsRow.holds Try.pinned (OpenSpec.ofChange Rows.sipPartsSpec) :=
  OpenClaim.holds_of_wide 5 Try.f5 rfl rfl rfl rfl rfl rfl rfl ⟨rfl, rfl, rfl, rfl, rfl⟩ rfl rfl rfl rfl rfl (by kernel_rfl) Try.func5 (by kernel_rfl)
    (of_decide_eq_true (by kernel_rfl)) (by unfold Func.isWrapper; first | (rw [if_pos (by decide +kernel)]; kernel_rfl) | (rw [if_neg (by decide +kernel)]; exact ⟨rfl, rfl⟩))
    (fun os started H enc _ => parts_lifted os started H enc)

theorem parts_said : Rows.SipPartsSaid := parts_over
end Go.Proofs.Ytfbpaakgifnmaaa
