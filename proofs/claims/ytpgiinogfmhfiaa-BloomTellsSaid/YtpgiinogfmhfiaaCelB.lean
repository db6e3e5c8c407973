/-
  Layer 10: walks of Check and Of. Conditions: a mark has sixteen bytes.
-/
import Derived.Test.YtpgiinogfmhfiaaCelA
namespace Go.Proofs.Ytpgiinogfmhfiaa
open Go.RowKit

def chk (m : List Int) : Int := hash (seedA 3) (seedB 3) m
structure MarkOk (m : List Int) : Prop where
  len : m.length = 16
  bytes : IsBytes m
theorem by_mark {w : World} {B t : Nat} {m : List Int} (h : Blk w B t (markL m)) (hm : MarkOk m) : BySl Nb w (.slice (some ⟨B, 0, none⟩) 16 16) m := by
  refine ⟨hm.bytes, .inr ⟨B, 0, 16, by rw [hm.len], by rw [hm.len]; exact Nat.le_refl _, by decide, fun i hi => ?_, fun _ h => h⟩⟩
  rw [Nat.zero_add]
  exact (h.cell i).trans (markL_get m i hi)
theorem psl_drew {w : World} {v : Value} {ps : List (List Int)} (h : PsSl w v ps) : PsSl w.drew v ps := h
theorem ckp_drew {S : Nat → Prop} {w w' : World} (h : Hid (Kp S w w')) : Hid (Kp S w w'.drew) := h.out.drew
theorem ckp_alloc {S : Nat → Prop} {w w' : World} (o : Obj) (h : Hid (Kp S w w')) : Hid (Kp S w (w'.alloc o)) := h.out.alloc o
theorem ckp_trans {S : Nat → Prop} {w w' w'' : World} (h : Hid (Kp S w w')) (k : Kp Nb w' w'') : Hid (Kp S w w'') := h.out.trans k (fun _ _ h => h.elim)


end Go.Proofs.Ytpgiinogfmhfiaa
