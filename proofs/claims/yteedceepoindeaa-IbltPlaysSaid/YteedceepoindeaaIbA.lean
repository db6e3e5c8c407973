/-
  Layer 11: sketches in memory; walks of Fits, slices.Clone of cells, Size, Clone. Conditions: cells are what their kinds hold; a size that may be.
-/
import Derived.Test.YteedceepoindeaaCelJk
import Derived.Test.YteedceepoindeaaCelL
import Derived.Test.YteedceepoindeaaFlat
import Derived.Maps.AppendAt
import Derived.Lib.SliceRun
import Derived.Lib.Walk
import Derived.OwnWalk
namespace Go.Proofs.Yteedceepoindeaa
open Go.RowKit

abbrev rws (cs : List Cel) : List Value := flatR cl cs
def AllOk (cs : List Cel) : Prop := ∀ q ∈ cs, CelOk q
theorem AllOk.len {cs : List Cel} (h : AllOk cs) : ∀ q ∈ cs, (cl q).length = 18 := fun q hq => cl_length (h q hq)
theorem AllOk.at {cs : List Cel} (h : AllOk cs) (i : Nat) : CelOk (celAt cs i) := celOk_of h i
theorem AllOk.set {cs : List Cel} (h : AllOk cs) (i : Nat) {x : Cel} (hx : CelOk x) : AllOk (cs.set i x) := fun q hq => by
  rcases List.mem_or_eq_of_mem_set hq with h1 | h1
  · exact h q h1
  · rw [h1]; exact hx
/-- A sketch at block B whose cells stand in block C. -/
structure SkAt (w : World) (B C : Nat) (cs : List Cel) : Prop where
  ok : AllOk cs
  at' : ∃ cap rest, Blk w B 77 [.slice (some ⟨C, 0, none⟩) cs.length cap] ∧ Blk w C 41 (rws cs ++ rest) ∧ cs.length ≤ cap ∧ cap ≤ maxLen
  pos : 0 < cs.length
  ne : B ≠ C
theorem SkAt.kept {S : Nat → Prop} {w w' : World} {B C : Nat} {cs : List Cel} (h : SkAt w B C cs) (k : Kp S w w') (hB : ¬ S B) (hC : ¬ S C) : SkAt w' B C cs := by
  obtain ⟨cap, rest, h1, h2, h3⟩ := h.at'
  exact ⟨h.ok, ⟨cap, rest, h1.kept k hB, h2.kept k hC, h3⟩, h.pos, h.ne⟩
theorem SkAt.lt {w : World} {B C : Nat} {cs : List Cel} (h : SkAt w B C cs) : B < w.heap.size ∧ C < w.heap.size := by
  obtain ⟨cap, rest, h1, h2, h3⟩ := h.at'
  exact ⟨h1.lt, h2.lt⟩

def fitB (n : Int) : Bool := decide (3 ≤ n ∧ n ≤ 1536 ∧ n % 3 = 0)
set_option maxHeartbeats 400000 in
theorem fits_any (n : Int) (w : World) (h0 : -9223372036854775808 ≤ n) (h1 : n < 9223372036854775808) : Calls Try.prog 12 #[.int .i64 n] w fun e w' => e = .returned (.bool (fitB n)) ∧ w = w' := by
  rcases (show n < 3 ∨ (3 ≤ n ∧ 1536 < n) ∨ (3 ≤ n ∧ n ≤ 1536 ∧ n % 3 = 0) ∨ (3 ≤ n ∧ n ≤ 1536 ∧ n % 3 ≠ 0) by omega) with h | ⟨ha, hb⟩ | ⟨ha, hb, hc⟩ | ⟨ha, hb, hc⟩
  · have HE : Hid (fitB n = false) := hid (decide_eq_false (by omega))
    have d1 : decide (3 ≤ n) = false := decide_eq_false (by omega)
    clear h
    go_enter Try.func12, Try.ntmps12
    go_wp2
    go_ret
    exact ⟨by rw [HE.out]; rfl, rfl⟩
  · have HE : Hid (fitB n = false) := hid (decide_eq_false (by omega))
    have d1 : decide (3 ≤ n) = true := decide_eq_true (by omega)
    have d2 : decide (n ≤ 1536) = false := decide_eq_false (by omega)
    clear ha hb
    go_enter Try.func12, Try.ntmps12
    go_wp2
    go_ret
    exact ⟨by rw [HE.out]; rfl, rfl⟩
  · have HE : Hid (fitB n = true) := hid (decide_eq_true ⟨ha, hb, hc⟩)
    have d1 : decide (3 ≤ n) = true := decide_eq_true (by omega)
    have d2 : decide (n ≤ 1536) = true := decide_eq_true (by omega)
    have e1 : n.tmod 3 = 0 := by rw [Int.tmod_eq_emod_of_nonneg (by omega)]; exact hc
    have e2 : IntKind.i64.wrap (n.tmod 3) = 0 := by rw [e1]; rfl
    clear ha hb hc h0 h1
    go_enter Try.func12, Try.ntmps12
    go_wp2
    go_ret
    exact ⟨by rw [HE.out]; rfl, rfl⟩
  · have HE : Hid (fitB n = false) := hid (decide_eq_false (by omega))
    have d1 : decide (3 ≤ n) = true := decide_eq_true (by omega)
    have d2 : decide (n ≤ 1536) = true := decide_eq_true (by omega)
    obtain ⟨r, hr⟩ : ∃ r, n.tmod 3 = r := ⟨_, rfl⟩
    have e1 : (r == 0) = false := by rw [beq_eq_false_iff_ne, ← hr, Int.tmod_eq_emod_of_nonneg (by omega)]; exact hc
    clear ha hb hc h0 h1
    go_enter Try.func12, Try.ntmps12
    go_wp2
    go_ret
    exact ⟨by rw [HE.out]; rfl, rfl⟩

theorem cell_info3 : ∃ i z, Try.prog.info? 41 = some i ∧ i.zero = some z ∧ i.size = 18 ∧ i.bytes = 32 ∧ z.cells.size = 18 := by
  have h : ((Try.prog.info? 41).map fun i => (i.zero.map fun z => z.cells.size, i.size, i.bytes)) = some (some 18, 18, 32) := by kernel_rfl
  obtain ⟨i, hi, h2⟩ := Option.map_eq_some_iff.1 h
  simp only [Prod.mk.injEq] at h2
  obtain ⟨z, hz, hz2⟩ := Option.map_eq_some_iff.1 h2.1
  exact ⟨i, z, hi, hz, h2.2.1, h2.2.2, hz2⟩
theorem rws_one {cs : List Cel} : ∀ u ∈ rws cs, u.oneCell' = true := fun u hu => by
  obtain ⟨q, _, hq⟩ := List.mem_flatMap.1 hu
  exact cellL_one _ _ _ u hq
theorem rws_cell {w : World} {blk off : Nat} {cs : List Cel} (ho : AllOk cs) (h : ∀ i, i < cs.length → w.rangeAt blk (off + i * 18) (cl (cs[i]?.getD c0))) (j : Nat) (u : Value) (hj : (rws cs)[j]? = some u) : w.cell? ⟨blk, off + j, none⟩ = some u := by
  have hl := flatR_length cs ho.len
  have hlt : j < cs.length * 18 := by
    have := (List.getElem?_eq_some_iff.1 hj).1
    rw [hl] at this
    exact this
  have e : j = j / 18 * 18 + j % 18 := by omega
  have hi : j / 18 < cs.length := by omega
  have h2 := h (j / 18) hi (j % 18) u (by
    rw [← flatR_get (f := cl) (z := c0) (c := 18) cs (j / 18) (j % 18) ho.len hi (by omega), ← e]; exact hj)
  rw [show off + j = off + j / 18 * 18 + j % 18 from by omega]
  exact h2
set_option maxHeartbeats 800000 in
theorem sclone_any (v : Value) (cs : List Cel) (w : World) (h : RowsSl cl c0 18 w v cs) (ho : AllOk cs) (hp : 0 < cs.length) (hbig : cs.length ≤ 100000) :
    Calls Try.prog 42 #[v] w fun e w' => ∃ g cap rest, e = .returned (.slice (some ⟨g, 0, none⟩) cs.length cap) ∧ w.heap.size ≤ g ∧ Blk w' g 41 (rws cs ++ rest) ∧ cs.length ≤ cap ∧ cap ≤ maxLen ∧ Kp Nb w w' := by
  rcases h with ⟨_, rfl⟩ | ⟨blk, off, cap, rfl, hc, hm, hcell⟩
  · simp at hp
  obtain ⟨i0, z, hi, hz0, hz1, hz2, hz3⟩ := cell_info3
  have q22 : ∀ (w : World) (a : Option Addr) (n c n' c' : Nat), (binOp .eql 35 (.slice a n c) (.slice none n' c')).run Try.prog w = .ok (.bool a.isNone) w := fun w a n c n' c' => Lib.run_eql_slice_nil w _ _ a n c n' c' Try.underlying35
  have A := hid (rws_cell ho hcell)
  have HL := hid (flatR_length cs ho.len)
  have HP := hid hp
  have HB := hid hbig
  clear hcell hp hbig
  go_enter Try.func42, Try.ntmps42
  go_wp2_with (at_builtin; refine wpList_append_own _ rfl _ _ 35 rfl w.heap.size 41 i0 z 18 32 Try.underlying35 hi hz0 hz1 hz2 hz3 (by decide) _ _ _ rfl (World.ownsRow_made w #[] 0 (Nat.le_refl _) (Nat.zero_le _) rfl) ⟨blk, off, none⟩ cs.length cap (rws cs) rfl ?qc1 ?qc2 ?qc3 ?qc4 ?qc5 ?qc6 ?_)
  case qc1 => exact HL.out
  case qc2 =>
    intro j u hj
    refine Lib.cell?_alloc_some _ ?_
    rw [add_mid]
    exact A.out j u hj
  case qc3 => exact rws_one
  case qc4 => unfold maxLen; have := HB.out; omega
  case qc5 => have := HB.out; omega
  case qc6 => simp
  intro v' w1 hown hgrow hnil
  have hk := hid (((Kp.refl Nb w).alloc (.cells #[] 41)).grown hgrow (fun k hk h => by simp [Value.ownBlock] at hk; omega))
  obtain ⟨g, cp, rest, rfl, hg, hb, hn, hx⟩ := own_blk (by simpa using hown) HP.out
  have HG := hid hg
  have HBk := hid hb
  clear hown hgrow hnil hg hb
  go_wp2
  go_ret
  exact ⟨g, cp, rest, rfl, HG.out, HBk.out, hn, hx, hk.out⟩

end Go.Proofs.Yteedceepoindeaa
