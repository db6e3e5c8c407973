/-
  Layer 2: Words itself (a copy in a box), and lists of uint64 in a box. Condition: bytes no more than 2^40.
-/
import Derived.Test.YtfbpaakgifnmaaaWorA
import Derived.Test.YtfbpaakgifnmaaaIntRow
import Derived.Test.YtfbpaakgifnmaaaIntOps
namespace Go.Proofs.Ytfbpaakgifnmaaa
open Go.RowKit Go.Shelf

theorem uload (w : World) (B : Nat) (u : Value) (h : w.cell? ⟨B, 0, none⟩ = some u) : (Instr.loadAt 82 (.pointer (some ⟨B, 0, none⟩))).run Try.prog w = .ok u w := by go_simp
theorem umake (w : World) (x : Int) : (Instr.buildSlice 82 1 #[(0, .int .u64 x)]).run Try.prog w = .ok (.slice (some ⟨w.heap.size, 0, none⟩) 1 1) (w.alloc (.cells #[.int .u64 x] 22 (0, 0))) := by go_simp
theorem ustore (w : World) (B g n cap : Nat) (u : Value) (h : w.cell? ⟨B, 0, none⟩ = some u) (hf : w.frozen? ⟨B, 0, none⟩ = false) : (Instr.storeAt 82 (.pointer (some ⟨B, 0, none⟩)) (.slice (some ⟨g, 0, none⟩) n cap)).run Try.prog w = .ok () (w.setCell ⟨B, 0, none⟩ (.slice (some ⟨g, 0, none⟩) n cap)) := by go_simp
theorem uinfo : (Try.prog.info? 22).map (fun i => (i.zero, i.size, i.bytes)) = some (some (.int .u64 0), 1, 8) := by kernel_rfl
def f2U (x : Int × Int) : List Value := [.int .u64 x.2]
theorem flat2U (L : List (Int × Int)) : L.flatMap f2U = (L.map (·.2)).map (Value.int .u64) := by
  induction L with
  | nil => rfl
  | cons x L ih => simp [f2U, ih]
theorem blks_own {w : World} {base n : Nat} {t : TypeId} {size : Nat} {v : Value} {xs : List Value} (h : w.ownsRow base t size v n xs) : ∀ b ∈ blksOf v, base ≤ b ∧ b < w.heap.size := by
  intro b hb
  obtain ⟨a, c, rfl⟩ := own_slice h
  cases a with
  | none => simp [blksOf] at hb
  | some a =>
    simp [blksOf] at hb
    subst hb
    exact h.lt _ rfl

theorem bysl_shape {S : Nat → Prop} {w : World} {v : Value} {zs : List Int} (h : BySl S w v zs) : ∃ y d, v = .slice y zs.length d := by
  rcases h.2 with ⟨⟨a, c, rfl⟩, rfl⟩ | ⟨blk, off, cap, rfl, _⟩
  · exact ⟨a, c, rfl⟩
  · exact ⟨_, _, rfl⟩

set_option maxHeartbeats 1000000 in
theorem words0_any (v : Value) (zs : List Int) (w : World) (h : BySl Nb w v zs) (hbig : zs.length ≤ 140737488355328) :
    Calls Try.prog 66 #[v] w fun r w' => ∃ v', r = .returned (.func (.func 69) #[] #[.pointer (some ⟨w.heap.size, 0, none⟩)]) ∧ Boxed w' w.heap.size 42 v' ∧ BySl Nb w' v' zs ∧ (∀ b ∈ blksOf v', w.heap.size < b ∧ b < w'.heap.size) ∧ Kp Nb w w' := by
  obtain ⟨y, d, rfl⟩ := bysl_shape h
  have CC : Hid (∀ wx, Kp Nb w wx → Calls Try.prog 62 #[.slice y zs.length d] wx fun e w' => ∃ v', e = .returned v' ∧ w'.ownsRow wx.heap.size 5 1 v' zs.length (zs.map (Value.int .u8)) ∧ Kp Nb wx w') := fun wx k => clone_any _ zs wx (h.kept k (fun _ h => h)) hbig
  have HZ := hid h.1
  have hb0 : Boxed (w.alloc (.cells #[.slice y zs.length d] 42)) w.heap.size 42 (.slice y zs.length d) := Boxed.new w _ _
  obtain ⟨w1, hw1⟩ : ∃ w1, w1 = w.alloc (.cells #[.slice y zs.length d] 42) := ⟨_, rfl⟩
  obtain ⟨B, hB⟩ : ∃ B, B = w.heap.size := ⟨_, rfl⟩
  rw [← hw1, ← hB] at hb0
  have hs1 : w1.heap.size = B + 1 := by rw [hw1, hB]; simp
  have hk1 : Kp Nb w w1 := by rw [hw1]; exact (Kp.refl Nb w).alloc _
  have HB0 := hid hb0
  have HS1 := hid hs1
  have HK1 := hid hk1
  have HBW := hid hB
  have cB : w1.cell? ⟨B, 0, none⟩ = some (.slice y zs.length d) := hb0.cell
  clear h hbig hb0 hs1 hk1
  go_enter Try.func66, Try.ntmps66
  go_wp2_with fail
  rw [← hw1, ← hB]
  clear hw1 hB
  go_wp2_with fail
  refine (CC.out _ HK1.out).mono ?_
  rintro e w2 ⟨v', rfl, ho, k2⟩
  obtain ⟨y', d', rfl⟩ := own_slice ho
  have hb2 : Boxed w2 B 42 (.slice y zs.length d) := (k2.heap (by have := HS1.out; omega) (fun h => h)).trans HB0.out
  have c2 := hb2.cell
  have f2 := hb2.frozen
  have HB3 := hid (hb2.set (.slice y' zs.length d'))
  have HO := hid ho
  have K2 := hid k2
  clear ho k2 hb2 cB
  go_wp2
  go_ret
  have hl := HB3.out.lt
  rw [← HBW.out]
  refine ⟨_, rfl, HB3.out, ?_, fun b hb => ?_, ?_⟩
  · refine BySl.kept (S := Jb B) (S' := Jb B) (BySl.ofOwn HO.out HZ.out (fun k hk _ h => by have := HS1.out; unfold Jb at h; omega)) ((Kp.refl (Jb B) w2).set 0 (.slice y' zs.length d')) (fun _ h => h) |>.mono (fun _ h => absurd h (fun h => h))
  · have := blks_own HO.out b hb
    have := HS1.out
    simp
    omega
  · refine (HK1.out.trans K2.out (fun _ _ h => h)).trans ((Kp.refl (Jb B) w2).set 0 (.slice y' zs.length d')) (fun i hi h => ?_)
    have := HBW.out
    unfold Jb at h
    omega

end Go.Proofs.Ytfbpaakgifnmaaa
