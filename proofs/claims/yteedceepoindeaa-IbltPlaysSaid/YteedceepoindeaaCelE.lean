/-
  Layer 10: walks of Right and Sum. Conditions: a mark has sixteen bytes; lists as long as an int tells.
-/
import Derived.Test.YteedceepoindeaaCelD
namespace Go.Proofs.Yteedceepoindeaa
open Go.RowKit

def crightB (c : Int) : Bool := decide (-1048576 ≤ c ∧ c ≤ 1048576)
set_option maxHeartbeats 400000 in
theorem cright_any (c : Int) (m : List Int) (k : Int) (w : World) :
    Calls Try.prog 55 #[cellV c m k] w fun e w' => e = .returned (.bool (crightB c)) ∧ Kp Nb w w' := by
  have c0 := cell_c (Blk.new w 41 (cellL c m k))
  have KW := hid ((Kp.refl Nb w).alloc (.cells (cellL c m k).toArray 41))
  rcases (show c < -1048576 ∨ (-1048576 ≤ c ∧ c ≤ 1048576) ∨ (-1048576 ≤ c ∧ 1048576 < c) by omega) with h | ⟨h1, h2⟩ | ⟨h1, h2⟩
  · have d1 : decide (-1048576 ≤ c) = false := decide_eq_false (by omega)
    have HE : Hid (crightB c = false) := hid (by unfold crightB; rw [decide_eq_false_iff_not]; omega)
    clear h
    go_enter Try.func55, Try.ntmps55
    go_wp2
    go_ret
    exact ⟨by rw [HE.out]; rfl, KW.out⟩
  · have d1 : decide (-1048576 ≤ c) = true := decide_eq_true h1
    have d2 : decide (c ≤ 1048576) = true := decide_eq_true h2
    have HE : Hid (crightB c = true) := hid (by unfold crightB; rw [decide_eq_true_iff]; omega)
    clear h1 h2
    go_enter Try.func55, Try.ntmps55
    go_wp2
    go_ret
    exact ⟨by rw [HE.out]; rfl, KW.out⟩
  · have d1 : decide (-1048576 ≤ c) = true := decide_eq_true h1
    have d2 : decide (c ≤ 1048576) = false := decide_eq_false (by omega)
    have HE : Hid (crightB c = false) := hid (by unfold crightB; rw [decide_eq_false_iff_not]; omega)
    clear h1 h2
    go_enter Try.func55, Try.ntmps55
    go_wp2
    go_ret
    exact ⟨by rw [HE.out]; rfl, KW.out⟩

/-- A list of cells, as (count, mark, check). -/
abbrev Cel := Int × List Int × Int
def celAt (cs : List Cel) (i : Nat) : Cel := cs[i]?.getD (0, List.replicate 16 0, 0)
def addC (x y : Cel) : Cel := (IntKind.i64.wrap (x.1 + y.1), layL x.2.1 y.2.1, bits .xor .u64 x.2.2 y.2.2)
def sumC (cs : List Cel) : Cel := cs.foldl addC (0, List.replicate 16 0, 0)
theorem sumC_snoc (cs : List Cel) (k : Nat) (h : k < cs.length) : sumC (cs.take (k + 1)) = addC (sumC (cs.take k)) (celAt cs k) := by
  unfold sumC celAt
  rw [List.take_succ_eq_append_getElem h, List.foldl_append, List.getElem?_eq_getElem h]
  rfl
theorem foldC_len (cs : List Cel) : ∀ x : Cel, x.2.1.length = 16 → (cs.foldl addC x).2.1.length = 16 := by
  induction cs with
  | nil => intro x h; exact h
  | cons y l ih => intro x _; exact ih _ (layK_length _ _ 16)
theorem sumC_len (cs : List Cel) : (sumC cs).2.1.length = 16 := foldC_len cs _ (by simp)
/-- A slice of cells. -/
def CelSl (w : World) (v : Value) (cs : List Cel) : Prop :=
  (∀ i, (celAt cs i).2.1.length = 16) ∧ (((∃ a cap, v = .slice a 0 cap) ∧ cs = []) ∨ ∃ blk off cap, v = .slice (some ⟨blk, off, none⟩) cs.length cap ∧ cs.length ≤ cap ∧ cap ≤ maxLen ∧
    ∀ i, i < cs.length → w.rangeAt blk (off + i * 18) (cellL (celAt cs i).1 (celAt cs i).2.1 (celAt cs i).2.2))
theorem range_kept {w w' : World} {B o : Nat} {vs : List Value} (h : w.rangeAt B o vs) (k : Kp Nb w w') : w'.rangeAt B o vs := fun j v hv => k.cell (h j v hv) (fun h => h)
theorem CelSl.kept {w w' : World} {v : Value} {cs : List Cel} (h : CelSl w v cs) (k : Kp Nb w w') : CelSl w' v cs := by
  refine ⟨h.1, ?_⟩
  rcases h.2 with h | ⟨blk, off, cap, rfl, hc, hm, hr⟩
  · exact .inl h
  · exact .inr ⟨blk, off, cap, rfl, hc, hm, fun i hi => range_kept (hr i hi) k⟩
theorem CelSl.shape {w : World} {v : Value} {cs : List Cel} (h : CelSl w v cs) : ∃ y d, v = .slice y cs.length d := by
  rcases h.2 with ⟨⟨a, c, rfl⟩, rfl⟩ | ⟨blk, off, cap, rfl, _⟩
  · exact ⟨a, c, rfl⟩
  · exact ⟨_, _, rfl⟩

def SumR (w : World) (cs : List Cel) (i : Value) (wr : World) : Prop :=
  ∃ k : Nat, k ≤ cs.length ∧ i = .int .i64 k ∧ Hid (Blk wr (w.heap.size + 1) 41 (cellL (sumC (cs.take k)).1 (sumC (cs.take k)).2.1 (sumC (cs.take k)).2.2)) ∧ Hid (Blk wr w.heap.size 41 (cellL 0 (List.replicate 16 0) 0)) ∧ Hid (Kp Nb w wr)

end Go.Proofs.Yteedceepoindeaa
