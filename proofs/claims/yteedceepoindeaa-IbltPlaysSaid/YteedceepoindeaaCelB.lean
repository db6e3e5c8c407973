/-
  Layer 10: walks of Check and Of. Conditions: a mark has sixteen bytes.
-/
import Derived.Test.YteedceepoindeaaCelA
namespace Go.Proofs.Yteedceepoindeaa
open Go.RowKit

def chk (m : List Int) : Int := hash (seedA 3) (seedB 3) m
structure MarkOk (m : List Int) : Prop where
  len : m.length = 16
  bytes : IsBytes m
theorem by_mark {w : World} {B t : Nat} {m : List Int} (h : Blk w B t (markL m)) (hm : MarkOk m) : BySl Nb w (.slice (some ⟨B, 0, none⟩) 16 16) m := by
  refine ⟨hm.bytes, .inr ⟨B, 0, 16, by rw [hm.len], by rw [hm.len]; exact Nat.le_refl _, by decide, fun i hi => ?_, fun _ h => h⟩⟩
  rw [Nat.zero_add]
  exact (h.cell i).trans (markL_get m i hi)
theorem psl_drew {w : World} {v : Value} {ps : List (List Int)} (h : PsSl w v ps) : PsSl w.drew v ps := h
theorem ckp_drew {S : Nat → Prop} {w w' : World} (h : Hid (Kp S w w')) : Hid (Kp S w w'.drew) := h.out.drew
theorem ckp_alloc {S : Nat → Prop} {w w' : World} (o : Obj) (h : Hid (Kp S w w')) : Hid (Kp S w (w'.alloc o)) := h.out.alloc o
theorem ckp_trans {S : Nat → Prop} {w w' w'' : World} (h : Hid (Kp S w w')) (k : Kp Nb w' w'') : Hid (Kp S w w'') := h.out.trans k (fun _ _ h => h.elim)

set_option maxRecDepth 100000 in
set_option maxHeartbeats 1000000 in
theorem chk_any (m : List Int) (w : World) (hm : MarkOk m) :
    Calls Try.prog 63 #[markV m] w fun e w' => e = .returned (.int .u64 (chk m)) ∧ Kp Nb w w' := by
  have HB := hid (Blk.new w 23 (markL m))
  have K0 := hid ((Kp.refl Nb w).alloc (.cells (markL m).toArray 23))
  have HY := hid (by_mark HB.out hm)
  have HL : Hid ([m].flatten.length < 4611686018427387904) := hid (by simp; have := hm.len; omega)
  have HC : Hid (hash (seedA 3) (seedB 3) m = chk m) := hid rfl
  obtain ⟨sa, hsa⟩ : ∃ s, seedA 3 = s := ⟨_, rfl⟩
  obtain ⟨sb, hsb⟩ : ∃ s, seedB 3 = s := ⟨_, rfl⟩
  have CS : Hid (∀ w, Calls Try.prog 39 #[.int .i64 3] w fun e w' => e = .returned (.agg #[.int .u64 sa, .int .u64 sb]) ∧ Kp Nb w w') := hid (fun w => by rw [← hsa, ← hsb]; exact seed_any 3 w)
  rw [hsa, hsb] at HC
  clear hsa hsb hm
  go_enter Try.func63, Try.ntmps63
  go_wp2_with fail
  obtain ⟨W, hW⟩ : ∃ W, W = w.alloc (.cells (markL m).toArray 23) := ⟨_, rfl⟩
  rw [← hW] at HB K0 HY ⊢
  have HK0 := hid (Kp.refl Nb W)
  clear hW
  go_region_held3 (fun w' => Hid (Kp Nb W w'))
    (exact (by repeat (first | with_reducible assumption | with_reducible apply ckp_drew | with_reducible apply ckp_alloc)))
    (first
      | (go_at_call 39; refine (CS.out _).mono ?_; rintro e wy ⟨rfl, kk⟩; have kS := hid kk; have kh : Hid (Kp Nb W wy) := ckp_trans (by repeat (first | with_reducible assumption | with_reducible apply ckp_drew | with_reducible apply ckp_alloc)) kk; clear kk)
      | (go_at_call 38; refine (hash_any _ _ _ [m] _ (by first | exact PsSl.one' (Hid.out (by repeat (first | with_reducible assumption | with_reducible apply ckp_drew | with_reducible apply ckp_alloc))) HY.out _ | exact PsSl.kept (psl_drew (PsSl.one' (Hid.out (by repeat (first | with_reducible assumption | with_reducible apply ckp_drew | with_reducible apply ckp_alloc))) HY.out _)) kS.out) HL.out).mono ?_; rintro e wy ⟨rfl, kk⟩; have kh : Hid (Kp Nb W wy) := ckp_trans (by repeat (first | with_reducible assumption | with_reducible apply ckp_drew | with_reducible apply ckp_alloc)) kk; clear kk))
  all_goals
    have K9 := hid (K0.out.trans kh.out (fun _ _ h => h))
    go_wp2
    go_ret
    exact ⟨by rw [HC.out]; rfl, K9.out⟩

end Go.Proofs.Yteedceepoindeaa
