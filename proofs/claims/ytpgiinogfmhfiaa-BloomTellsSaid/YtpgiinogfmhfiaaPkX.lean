/-
  Layer 15: filters in memory; walks of Fits, Bits, New. Conditions: ints.
  Layer 15: the walk of Places. Conditions: a mark has sixteen bytes; so many bits as may be.
  Layer 15: walks of New, OnesCount8, Count. Conditions: a filter in memory; an int.
  Layer 15: walks of May and Add. Conditions: a filter in memory; a mark has sixteen bytes. (Printed by gen_bld.py.)
  Layer 15: walks of slices.Clone of marks, of Lacks. Conditions: a filter in memory; at most 100,000 marks.
  Layer 15: the iterator of Lacks. Conditions: a filter in memory; at most 100,000 marks.
  Layer 15: the statements' own `lacks`. Conditions: a filter in memory; at most 100,000 marks.
  Layer 15: plain: which bits are set behind an Add; that what was added may be there. Conditions: bytes; so many bits as may be.
  Layer 15: the statements' own first. No condition.
  Layer 15: a filter's bytes (Put, the statements' own `bytes`). Condition: a filter in memory.
  Layer 15: plain: the order and repeats of what is added say nothing; how many bits are set at the most. Conditions: bytes; so many bits as may be.
  Layer 15: the law BloomOrder. Condition: a case as its kind holds it.
  Layer 15: Union: a new filter of the two, byte by byte. Condition: both filters as they are held, of one size.
  Layer 15: plain: the bits of a union. Conditions: bytes; lists of one length.
  Layer 15: plain: a union with a filter of one mark is that mark added; what was added may be there; how many bits more. Conditions: bytes; so many bits as may be.
  Layer 15: the law BloomHolds. Condition: a case as its kind holds it.
-/
import Derived.Test.YtpgiinogfmhfiaaIbC
import Derived.Test.YtpgiinogfmhfiaaRowApp
import Derived.Test.YtpgiinogfmhfiaaPenNew
import Derived.Test.YtpgiinogfmhfiaaGhostL
import Derived.Lib.Tables
import Derived.Lib.BitFns
import Derived.Test.YtpgiinogfmhfiaaColl
import Derived.Test.YtpgiinogfmhfiaaSeqW
import Derived.RangeFuncNested
import Derived.RangeFuncBound
import Derived.RangeFuncCalls
import Derived.RangeFuncLeaves
import Derived.Shelf.Abstract
import Derived.Shelf.RegionOpen
import Derived.OwnWalkIn
import Derived.TacticsInMore
import Derived.LoopNIn
import Derived.LoopIn
import Derived.Test.YtpgiinogfmhfiaaTwo
import Derived.Test.YtpgiinogfmhfiaaJoined
import Derived.Test.YtpgiinogfmhfiaaVars
import Derived.Test.YtpgiinogfmhfiaaPkE
namespace Go.Proofs.Ytpgiinogfmhfiaa
open Go.RowKit


def fitL (n : Int) : Bool := decide (n.tmod 8 = 0 ∧ 8 ≤ n.tdiv 8 ∧ n.tdiv 8 ≤ 1024)
theorem fitL_t {n : Int} (h : fitL n = true) : ∃ t : Nat, n = ((8 * t : Nat) : Int) ∧ 8 ≤ t ∧ t ≤ 1024 := by
  unfold fitL at h
  obtain ⟨h1, h2, h3⟩ := of_decide_eq_true h
  have := Int.tmod_add_mul_tdiv n 8
  exact ⟨(n.tdiv 8).toNat, by omega, by omega, by omega⟩
theorem fitL_8 (t : Nat) (h0 : 8 ≤ t) (h1 : t ≤ 1024) : fitL ((8 * t : Nat) : Int) = true := by
  unfold fitL
  rw [Int.tmod_eq_emod_of_nonneg (by omega), Int.tdiv_eq_ediv_of_nonneg (by omega)]
  exact decide_eq_true (by omega)
set_option maxHeartbeats 400000 in
theorem lfits_any (n : Int) (w : World) (h0 : -9223372036854775808 ≤ n) (h1 : n < 9223372036854775808) : Calls Try.prog 13 #[.int .i64 n] w fun e w' => e = .returned (.bool (fitL n)) ∧ w = w' := by
  have ht := Int.tmod_add_mul_tdiv n 8
  have hlo : -8 < n.tmod 8 ∧ n.tmod 8 < 8 := by
    have h2 := Int.tmod_lt_of_pos n (show (0 : Int) < 8 by decide)
    have h3 := Int.lt_tmod_of_pos n (show (0 : Int) < 8 by decide)
    exact ⟨h3, h2⟩
  obtain ⟨r, hr⟩ : ∃ r, n.tmod 8 = r := ⟨_, rfl⟩
  obtain ⟨q, hq⟩ : ∃ r, n.tdiv 8 = r := ⟨_, rfl⟩
  rw [hr, hq] at ht
  rw [hr] at hlo
  have hqb : -9223372036854775808 ≤ q ∧ q < 9223372036854775808 := by omega
  have hqw : IntKind.i64.wrap q = q := by rw [IntKind.wrap_i64]; omega
  have HE0 : Hid (fitL n = decide (r = 0 ∧ 8 ≤ q ∧ q ≤ 1024)) := hid (by unfold fitL; rw [hr, hq])
  by_cases c1 : r = 0
  · subst c1
    by_cases c2 : 8 ≤ q
    · by_cases c3 : q ≤ 1024
      · have HE : Hid (fitL n = true) := hid (by rw [HE0.out]; exact decide_eq_true ⟨rfl, c2, c3⟩)
        have d1 : decide (q ≥ 8) = true := decide_eq_true c2
        have d2 : decide (q ≤ 1024) = true := decide_eq_true c3
        clear c2 c3 ht hlo h0 h1 hqb
        go_enter Try.func13, Try.ntmps13
        go_wp2
        go_ret
        exact ⟨by rw [HE.out]; rfl, rfl⟩
      · have HE : Hid (fitL n = false) := hid (by rw [HE0.out]; exact decide_eq_false (fun h => c3 h.2.2))
        have d1 : decide (q ≥ 8) = true := decide_eq_true c2
        have d2 : decide (q ≤ 1024) = false := decide_eq_false c3
        clear c2 c3 ht hlo h0 h1 hqb
        go_enter Try.func13, Try.ntmps13
        go_wp2
        go_ret
        exact ⟨by rw [HE.out]; rfl, rfl⟩
    · have HE : Hid (fitL n = false) := hid (by rw [HE0.out]; exact decide_eq_false (fun h => c2 h.2.1))
      have d1 : decide (q ≥ 8) = false := decide_eq_false c2
      clear c2 ht hlo h0 h1 hqb
      go_enter Try.func13, Try.ntmps13
      go_wp2
      go_ret
      exact ⟨by rw [HE.out]; rfl, rfl⟩
  · have HE : Hid (fitL n = false) := hid (by rw [HE0.out]; exact decide_eq_false (fun h => c1 h.1))
    have d1 : (r == 0) = false := by rw [beq_eq_false_iff_ne]; exact c1
    clear c1 ht h0 h1 hqb
    go_enter Try.func13, Try.ntmps13
    go_wp2
    go_ret
    exact ⟨by rw [HE.out]; rfl, rfl⟩

/-- A filter at block B whose bytes stand in block C. -/
structure FlAt (w : World) (B C : Nat) (zs : List Int) : Prop where
  ok : IsBytes zs
  at' : ∃ cap rest, Blk w B 60 [.slice (some ⟨C, 0, none⟩) zs.length cap] ∧ Blk w C 5 (zs.map (Value.int .u8) ++ rest) ∧ zs.length ≤ cap ∧ cap ≤ maxLen
  size : 8 ≤ zs.length ∧ zs.length ≤ 1024
  ne : B ≠ C
theorem FlAt.kept {S : Nat → Prop} {w w' : World} {B C : Nat} {zs : List Int} (h : FlAt w B C zs) (k : Kp S w w') (hB : ¬ S B) (hC : ¬ S C) : FlAt w' B C zs := by
  obtain ⟨cap, rest, h1, h2, h3⟩ := h.at'
  exact ⟨h.ok, ⟨cap, rest, h1.kept k hB, h2.kept k hC, h3⟩, h.size, h.ne⟩
theorem FlAt.lt {w : World} {B C : Nat} {zs : List Int} (h : FlAt w B C zs) : B < w.heap.size ∧ C < w.heap.size := by
  obtain ⟨cap, rest, h1, h2, h3⟩ := h.at'
  exact ⟨h1.lt, h2.lt⟩
set_option maxHeartbeats 400000 in
theorem lbits_any (B C : Nat) (zs : List Int) (w : World) (h : FlAt w B C zs) : Calls Try.prog 15 #[.pointer (some ⟨B, 0, none⟩)] w fun e w' => e = .returned (.int .i64 ((8 * zs.length : Nat) : Int)) ∧ w = w' := by
  obtain ⟨cap, rest, h1, -, -⟩ := h.at'
  have c0 := h1.cell 0
  simp only [List.getElem?_cons_zero] at c0
  have hs := h.size
  obtain ⟨n, hn⟩ : ∃ n, zs.length = n := ⟨_, rfl⟩
  rw [hn] at c0 hs ⊢
  clear h h1 hn
  go_enter Try.func15, Try.ntmps15
  go_wp2
  go_ret
  exact ⟨by simp, rfl⟩
set_option maxHeartbeats 400000 in
theorem lbits_nil (w : World) : Calls Try.prog 15 #[.pointer none] w fun e w' => e = .returned (.int .i64 0) ∧ w = w' := by
  go_enter Try.func15, Try.ntmps15
  go_wp2
  go_ret
  exact ⟨rfl, rfl⟩

end Go.Proofs.Ytpgiinogfmhfiaa

namespace Go.Proofs.Ytpgiinogfmhfiaa
open Go.RowKit

def hs8 (m : List Int) : Int := hash (seedA 8) (seedB 8) m
def plb (s : Int) (m : List Int) (i : Nat) : Nat := ((hs8 m / 65536 ^ i % 65536) % s).toNat
theorem hs8_range (m : List Int) : 0 ≤ hs8 m ∧ hs8 m < 18446744073709551616 := x64_rng _ _
theorem plb_lt (s : Int) (m : List Int) (i : Nat) (h : 0 < s) : (plb s m i : Int) < s := by
  unfold plb
  have h1 := Int.emod_nonneg (hs8 m / 65536 ^ i % 65536) (show s ≠ 0 by omega)
  have h2 := Int.emod_lt_of_pos (hs8 m / 65536 ^ i % 65536) h
  omega
theorem plb_val (u s : Int) (hu : 0 ≤ u) (h0 : 0 < s) : (wrap64 (u.tmod 65536)).tmod s = (((u % 65536 % s).toNat : Nat) : Int) := by
  have e1 : u.tmod 65536 = u % 65536 := Int.tmod_eq_emod_of_nonneg hu
  have r1 : 0 ≤ u % 65536 ∧ u % 65536 < 65536 := ⟨Int.emod_nonneg _ (by decide), Int.emod_lt_of_pos _ (by decide)⟩
  have e2 : wrap64 (u % 65536) = u % 65536 := by unfold wrap64; omega
  have h1 := Int.emod_nonneg (u % 65536) (show s ≠ 0 by omega)
  rw [e1, e2, Int.tmod_eq_emod_of_nonneg r1.1, Int.toNat_of_nonneg h1]
/-- The first k places, as an array. -/
def plbL (s : Int) (m : List Int) (k : Nat) : List Value := [.int .i64 (if 0 < k then (plb s m 0 : Int) else 0), .int .i64 (if 1 < k then (plb s m 1 : Int) else 0), .int .i64 (if 2 < k then (plb s m 2 : Int) else 0), .int .i64 (if 3 < k then (plb s m 3 : Int) else 0)]
abbrev plbV (s : Int) (m : List Int) : Value := .agg (plbL s m 4).toArray
theorem plbL_zero (s : Int) (m : List Int) : plbL s m 0 = [.int .i64 0, .int .i64 0, .int .i64 0, .int .i64 0] := by unfold plbL; simp
theorem plbL_len (s : Int) (m : List Int) (k : Nat) : (plbL s m k).length = 4 := by unfold plbL; rfl
theorem arr4_info : (Try.prog.info? 39).map (·.size) = some 4 := by kernel_rfl
def PbR (w5 : World) (B : Nat) (s : Int) (m : List Int) (i : Value) (wr : World) : Prop := ∃ k : Nat, k ≤ 4 ∧ i = .int .i64 k ∧ Hid (Blk wr B 39 (plbL s m k)) ∧ Hid (Kp (Jb B) w5 wr)
set_option maxRecDepth 100000 in
set_option maxHeartbeats 4000000 in
theorem lplaces_any (t : Nat) (m : List Int) (w : World) (hm : MarkOk m) (h0 : 8 ≤ t) (h1 : t ≤ 1024) :
    Calls Try.prog 14 #[.int .i64 ((8 * t : Nat) : Int), markV m] w fun e w' => e = .returned (plbV ((8 * t : Nat) : Int) m) ∧ Kp Nb w w' := by
  obtain ⟨s, hs⟩ : ∃ s : Int, ((8 * t : Nat) : Int) = s := ⟨_, rfl⟩
  have hf := fitL_8 t h0 h1
  rw [hs] at hf ⊢
  have hs0 : 64 ≤ s := by omega
  have hs1 : s ≤ 8192 := by omega
  have CF : Hid (∀ w, Calls Try.prog 13 #[.int .i64 s] w fun e w' => e = .returned (.bool true) ∧ w = w') := hid (fun w => by
    have h := lfits_any s w (by omega) (by omega)
    rw [hf] at h
    exact h)
  obtain ⟨sa, hsa⟩ : ∃ s, seedA 8 = s := ⟨_, rfl⟩
  obtain ⟨sb, hsb⟩ : ∃ s, seedB 8 = s := ⟨_, rfl⟩
  obtain ⟨q, hq⟩ : ∃ q, hs8 m = q := ⟨_, rfl⟩
  have CS : Hid (∀ w, Calls Try.prog 32 #[.int .i64 8] w fun e w' => e = .returned (.agg #[.int .u64 sa, .int .u64 sb]) ∧ Kp Nb w w') := hid (fun w => by rw [← hsa, ← hsb]; exact seed_any 8 w)
  have CH : Hid (∀ v w, PsSl w v [m] → Calls Try.prog 31 #[.agg #[.int .u64 sa, .int .u64 sb], v] w fun e w' => e = .returned (.int .u64 q) ∧ Kp Nb w w') := hid (fun v w hp => by
    have h := hash_any (seedA 8) (seedB 8) v [m] w hp (by simp; rw [hm.len]; decide)
    have e : ([m] : List (List Int)).flatten = m := by simp
    have hq' : hash (seedA 8) (seedB 8) m = q := hq
    rw [e, hq', hsa, hsb] at h
    exact h)
  have HQ := hid hq
  have QR := hid (hs8_range m)
  rw [hq] at QR
  obtain ⟨W, hW⟩ : ∃ W, W = ((w.alloc (.cells (markL m).toArray 24)).alloc (.cells #[.int .i64 0, .int .i64 0, .int .i64 0, .int .i64 0] 39)).alloc (.cells #[.int .i64 0, .int .i64 0, .int .i64 0, .int .i64 0] 39) := ⟨_, rfl⟩
  obtain ⟨N, hN⟩ : ∃ N, N = w.heap.size := ⟨_, rfl⟩
  have H3 : Hid (Blk W N 24 (markL m)) := hid (by rw [hW, hN]; exact ((Blk.new w _ _).alloc _).alloc _)
  have H4 : Hid (Blk W (N + 1) 39 [.int .i64 0, .int .i64 0, .int .i64 0, .int .i64 0]) := hid (by
    have h := (Blk.new (w.alloc (.cells (markL m).toArray 24)) 39 [.int .i64 0, .int .i64 0, .int .i64 0, .int .i64 0]).alloc (.cells #[.int .i64 0, .int .i64 0, .int .i64 0, .int .i64 0] 39)
    simp only [World.size_alloc] at h
    rw [hW, hN]
    exact h)
  have H5 : Hid (Blk W (N + 1 + 1) 39 [.int .i64 0, .int .i64 0, .int .i64 0, .int .i64 0]) := hid (by
    have h := Blk.new ((w.alloc (.cells (markL m).toArray 24)).alloc (.cells #[.int .i64 0, .int .i64 0, .int .i64 0, .int .i64 0] 39)) 39 [.int .i64 0, .int .i64 0, .int .i64 0, .int .i64 0]
    simp only [World.size_alloc] at h
    rw [hW, hN]
    exact h)
  have KW : Hid (Kp Nb w W) := hid (by rw [hW]; exact (((Kp.refl Nb w).alloc _).alloc _).alloc _)
  have LN : Hid (w.heap.size ≤ N) := hid (by rw [hN]; exact Nat.le_refl _)
  have HM := hid hm
  have T6 : ¬ s = 0 := by omega
  clear hsa hsb hq hs h0 h1 hm hf
  go_enter Try.func14, Try.ntmps14
  go_wp2_with fail
  refine (CF.out _).mono ?_
  rintro e w1 ⟨rfl, rfl⟩
  go_upto_region 4 with fail
  rw [show ((w.alloc (.cells (markL m).toArray 24)).alloc (.cells #[.int .i64 0, .int .i64 0, .int .i64 0, .int .i64 0] 39)).alloc (.cells #[.int .i64 0, .int .i64 0, .int .i64 0, .int .i64 0] 39) = W from hW.symm, ← hN]
  clear hW hN
  refine region_ghost (g0 := (0 : Nat)) [none, none, none, none, none, none, some 4, none, none, none, none, none, some 0, some 1, some 2, some 3, none, none, none, none, none, none, none, none, none, none, none, none, none, none, none] [[], [(3, none)], [(13, some 1)], [(12, some 0), (14, some 2)], [(15, some 3)]] [some 12, some 13, some 14, some 15, some 6] (fun g => [.agg #[.int .u64 sa, .int .u64 sb], .slice (some ⟨N, 0, none⟩) 16 16, .slice (some ⟨g, 0, none⟩) 1 1, .int .u64 q, .int .u64 q]) [2] (HmS W m) (by kernel_rfl) (by kernel_rfl) (fun g => by kernel_rfl) (by kernel_rfl) ?hS (GFrom.all (n := 5) (by kernel_rfl) ?hstep) ?hend
  case hstep =>
    refine GFrom.cons (GStep.call _ rfl rfl _ rfl (fun g => .agg #[.int .u64 sa, .int .u64 sb]) (fun _ => rfl) (fun _ => trivial) 32 (fun g => #[.int .i64 8]) (fun bs g ev wq hS he hr => ?_) (fun L g wq hd hL hS => ?_)) ?_
    · have hk := he.1; have hf := he.2; clear hr he
      go_simp
    · exact (CS.out wq).mono fun e w' ⟨h1, h2⟩ => ⟨h1, hS.keptN h2⟩
    refine GFrom.cons (GStep.val _ rfl rfl _ rfl (fun g => .slice (some ⟨N, 0, none⟩) 16 16) (fun _ => rfl) (fun _ => trivial) (fun bs g ev wq hS he hr => ?_)) ?_
    · have r0 : ev (.tmp 3) = .pointer (some ⟨N, 0, none⟩) := hr (3, none) (by simp); have hk := he.1; clear hr he
      go_simp
    refine GFrom.cons (GStep.make _ rfl _ rfl (fun _ => trivial) (fun L g ev wq hL hd hcl hS he hr => ?_)) ?_
    · have r0 : ev (.tmp 13) = .slice (some ⟨N, 0, none⟩) 16 16 := hr (13, some 1) (by simp); clear hr he
      have hc := PsSl.one' (w4 := W) hS.kp (by_mark H3.out HM.out) 25
      exact ⟨_, wq.heap.size, _, exec_buildSlice rfl (by simp [r0]) (make_one _ rfl wq), rfl, old_set _ hL rfl, hS.kp.trans ((Kp.refl Nb wq).alloc _) (fun _ _ h => h), fun _ => hc⟩
    refine GFrom.cons (GStep.call _ rfl rfl _ rfl (fun g => .int .u64 q) (fun _ => rfl) (fun _ => trivial) 31 (fun g => #[.agg #[.int .u64 sa, .int .u64 sb], .slice (some ⟨g, 0, none⟩) 1 1]) (fun bs g ev wq hS he hr => ?_) (fun L g wq hd hL hS => ?_)) ?_
    · have r0 : ev (.tmp 12) = .agg #[.int .u64 sa, .int .u64 sb] := hr (12, some 0) (by simp); have r1 : ev (.tmp 14) = .slice (some ⟨g, 0, none⟩) 1 1 := hr (14, some 2) (by simp); have hk := he.1; have hf := he.2; clear hr he
      go_simp
    · exact (CH.out _ wq (hS.sl (by simp [bitsAt, hd 2 (by kernel_rfl)]))).mono fun e w' ⟨h1, h2⟩ => ⟨h1, hS.keptN h2⟩
    refine GFrom.cons (GStep.val _ rfl rfl _ rfl (fun g => .int .u64 q) (fun _ => rfl) (fun _ => trivial) (fun bs g ev wq hS he hr => ?_)) ?_
    · have r0 : ev (.tmp 15) = .int .u64 q := hr (15, some 3) (by simp); have hk := he.1; clear hr he
      go_simp
    exact GFrom.nil
  case hS => exact ⟨(Kp.refl Nb W).drew, fun h => by simp at h⟩
  case hend =>
    intro g w5 h5
    have k5 := h5.kp
    have Q4 := hid (H4.out.kept k5 (fun h => h))
    have Q5 : Hid (Blk w5 (N + 1 + 1) 39 (plbL s m 0)) := hid (by rw [plbL_zero]; exact H5.out.kept k5 (fun h => h))
    have K5 := hid (KW.out.trans k5 (fun _ _ h => h))
    clear h5 k5 H3 H4 H5 KW CS CH CF
    simp only [putAll, List.zip_cons_cons, List.zip_nil_right, List.foldl_cons, List.foldl_nil, Act.put, List.setIfInBounds_toArray, List.set_cons_zero, List.set_cons_succ]
    go_wp2
    go_loopw [16] (PbR w5 (N + 1 + 1) s m) (fun i _ => 4 - (intOf i).toNat)
    case atStart => exact ⟨0, by omega, rfl, Q5, Kp.refl _ _⟩
    case round =>
      clear Q5
      obtain ⟨k, hk, rfl, HA, HK⟩ := hrel
      rcases k with _ | _ | _ | _ | k
      · have c0 := HA.out.cell 0
        have f0 := HA.out.frozen 0
        simp only [plbL, List.getElem?_cons_zero] at c0
        have PV : Hid ((wrap64 ((q).tmod 65536)).tmod s = ((plb s m 0 : Nat) : Int)) := hid (by
          rw [plb_val (q) s (by have := QR.out; omega) (by omega)]
          unfold plb
          rw [HQ.out]
          simp)
        have pv := PV.out
        go_wp2
        have HA3 : Hid (Blk (wr.setCell ⟨N + 1 + 1, 0, none⟩ (.int .i64 ((plb s m 0 : Nat) : Int))) (N + 1 + 1) 39 (plbL s m 1)) := HA.out.set 0 _
        have HK3 := hid (HK.out.set 0 (.int .i64 ((plb s m 0 : Nat) : Int)))
        go_roundw
        case rel => exact ⟨1, by omega, by go_num, HA3, HK3⟩
        case measure => simp [intOf]
      · have c0 := HA.out.cell 1
        have f0 := HA.out.frozen 1
        simp only [plbL, List.getElem?_cons_zero, List.getElem?_cons_succ] at c0
        have PV : Hid ((wrap64 ((q / 65536).tmod 65536)).tmod s = ((plb s m 1 : Nat) : Int)) := hid (by
          rw [plb_val (q / 65536) s (by have := QR.out; omega) (by omega)]
          unfold plb
          rw [HQ.out]
          simp)
        have pv := PV.out
        go_wp2
        have HA3 : Hid (Blk (wr.setCell ⟨N + 1 + 1, 1, none⟩ (.int .i64 ((plb s m 1 : Nat) : Int))) (N + 1 + 1) 39 (plbL s m 2)) := HA.out.set 1 _
        have HK3 := hid (HK.out.set 1 (.int .i64 ((plb s m 1 : Nat) : Int)))
        go_roundw
        case rel => exact ⟨2, by omega, by go_num, HA3, HK3⟩
        case measure => simp [intOf]
      · have c0 := HA.out.cell 2
        have f0 := HA.out.frozen 2
        simp only [plbL, List.getElem?_cons_zero, List.getElem?_cons_succ] at c0
        have PV : Hid ((wrap64 ((q / 4294967296).tmod 65536)).tmod s = ((plb s m 2 : Nat) : Int)) := hid (by
          rw [plb_val (q / 4294967296) s (by have := QR.out; omega) (by omega)]
          unfold plb
          rw [HQ.out]
          simp [show (65536 : Int) ^ 2 = 4294967296 from by decide])
        have pv := PV.out
        go_wp2
        have HA3 : Hid (Blk (wr.setCell ⟨N + 1 + 1, 2, none⟩ (.int .i64 ((plb s m 2 : Nat) : Int))) (N + 1 + 1) 39 (plbL s m 3)) := HA.out.set 2 _
        have HK3 := hid (HK.out.set 2 (.int .i64 ((plb s m 2 : Nat) : Int)))
        go_roundw
        case rel => exact ⟨3, by omega, by go_num, HA3, HK3⟩
        case measure => simp [intOf]
      · have c0 := HA.out.cell 3
        have f0 := HA.out.frozen 3
        simp only [plbL, List.getElem?_cons_zero, List.getElem?_cons_succ] at c0
        have PV : Hid ((wrap64 ((q / 281474976710656).tmod 65536)).tmod s = ((plb s m 3 : Nat) : Int)) := hid (by
          rw [plb_val (q / 281474976710656) s (by have := QR.out; omega) (by omega)]
          unfold plb
          rw [HQ.out]
          simp [show (65536 : Int) ^ 3 = 281474976710656 from by decide])
        have pv := PV.out
        go_wp2
        have HA3 : Hid (Blk (wr.setCell ⟨N + 1 + 1, 3, none⟩ (.int .i64 ((plb s m 3 : Nat) : Int))) (N + 1 + 1) 39 (plbL s m 4)) := HA.out.set 3 _
        have HK3 := hid (HK.out.set 3 (.int .i64 ((plb s m 3 : Nat) : Int)))
        go_roundw
        case rel => exact ⟨4, by omega, by go_num, HA3, HK3⟩
        case measure => simp [intOf]
      · have hk4 : k = 0 := by omega
        subst hk4
        have HP := hid (show Blk wr (N + 1 + 1) 39 (plbL s m 4) from HA.out)
        have Q6 := hid (Q4.out.kept HK.out (fun h => by have h' : N + 1 = N + 1 + 1 := h; omega))
        have K6 := hid (K5.out.trans HK.out (fun i hi h => by have h' : i = N + 1 + 1 := h; have := LN.out; omega))
        have TH : Hid (wr.there (N + 1) 0 (plbL s m 4).toArray.size) := hid (by rw [List.size_toArray, plbL_len]; exact Q6.out.there 0 4 (Nat.le_refl _))
        have SI : Hid ((Try.prog.info? 39).map (·.size) = some (plbL s m 4).toArray.size) := hid (by rw [List.size_toArray, plbL_len]; exact arr4_info)
        have SL : Hid ((Try.prog.info? 39).map (·.size) = some (plbL s m 4).length) := hid (by rw [plbL_len]; exact arr4_info)
        have ON : Hid ((plbL s m 4).toArray.all (·.oneCell') = true) := hid (by simp [plbL, Value.oneCell'])
        have HF : Hid (Blk (wr.setCells (N + 1) 0 (plbL s m 4)) (N + 1) 39 (plbL s m 4)) := hid (row_set Q6.out (plbL_len s m 4))
        have K9 : Hid (Kp Nb w (wr.setCells (N + 1) 0 (plbL s m 4))) := hid (Kp.setCells (fun h => by have := LN.out; omega) _ 0 _ K6.out)
        obtain ⟨P, hP⟩ : ∃ P, P = plbL s m 4 := ⟨_, rfl⟩
        have L3 : Hid (P.length = 4) := hid (by rw [hP]; exact plbL_len s m 4)
        rw [← hP] at HP TH SI SL ON HF K9
        have HPE := hid hP
        clear hP HA hk K6 Q6 T6
        go_wp2_with (first
          | (refine wpList_load_mid (by rfl) 39 (.tmp 5) (by rfl) (N + 1 + 1) 0 (by rfl) P _ (range_of HP.out) Try.underlying39 rfl SL.out ?_)
          | (refine wpList_store_mid (by rfl) 39 (.tmp 4) (.tmp 30) (by rfl) (N + 1) 0 P.toArray (by rfl) (by rfl) TH.out SI.out ON.out ?_))
        have hl := row_loadVar (P := Try.prog) Try.underlying39 rfl SL.out HF.out 0 (fun j _ => by rw [Nat.zero_add])
        refine bodyPost_ret (v := .agg P.toArray) (results_cell rfl _ (N + 1) (by rfl) _ hl) ?_ ?_
        · rfl
        · have hv : (.agg P.toArray : Value) = plbV s m := by rw [HPE.out]
          exact ⟨congrArg Ending.returned hv, K9.out⟩

end Go.Proofs.Ytpgiinogfmhfiaa

namespace Go.Proofs.Ytpgiinogfmhfiaa
open Go.RowKit

theorem byte_zcL : ∃ i z, Try.prog.info? 5 = some i ∧ i.zero = some z ∧ i.size = 1 ∧ i.bytes = 1 ∧ z.cells = #[.int .u8 0] := by
  have h : ((Try.prog.info? 5).map fun i => (i.zero.map fun z => z.cells, i.size, i.bytes)) = some (some #[.int .u8 0], 1, 1) := by kernel_rfl
  obtain ⟨i, hi, h2⟩ := Option.map_eq_some_iff.1 h
  simp only [Prod.mk.injEq] at h2
  obtain ⟨z, hz, hz2⟩ := Option.map_eq_some_iff.1 h2.1
  exact ⟨i, z, hi, hz, h2.2.1, h2.2.2, hz2⟩
theorem made_bytesL (n : Nat) : (madeCells #[Value.int .u8 0] (n * 1)).toList = List.replicate n (Value.int .u8 0) := by
  apply List.ext_getElem?
  intro j
  rcases Nat.lt_or_ge j n with h | h
  · rw [List.getElem?_replicate, if_pos h, Array.getElem?_toList]
    unfold madeCells
    rw [Array.getElem?_map, Array.getElem?_range, if_pos (by omega), Option.map_some]
    simp [Nat.mod_one]
  · rw [List.getElem?_eq_none (by rw [Array.length_toList, size_madeCells]; omega), List.getElem?_eq_none (by rw [List.length_replicate]; exact h)]
theorem make_bytesL (w : World) (n : Nat) (hn : n ≤ 2048) : (Instr.makeSlice 25 (.int .i64 (n : Int)) (.int .i64 (n : Int))).run Try.prog w = .ok (.slice (some ⟨w.heap.size, 0, none⟩) n n) (w.alloc (.cells (List.replicate n (Value.int .u8 0)).toArray 5 (0, 0))) := by
  obtain ⟨i, z, h1, h2, h3, h4, h5⟩ := byte_zcL
  have h := run_make (P := Try.prog) w _ _ i z Try.underlying25 h1 h2 .i64 .i64 n n (by omega) (Int.le_refl _) (by rw [h4]; omega) (by omega)
  rw [Int.toNat_natCast, h3, h5, ← Array.toArray_toList (xs := madeCells _ _), made_bytesL] at h
  exact h
theorem exec_mksliceL {P : Program} {ev : Operand → Value} {o : Oper} {T : TypeId} {x y : Operand} {v v2 r : Value} {w w' : World} (ho : o.op = .makeSlice T x y) (hx : ev x = v) (hy : ev y = v2) (hl : (Instr.makeSlice T v v2).run P w = .ok r w') : (execOp ev o).run P w = .ok (.value r) w' := by
  unfold execOp
  simp only [ho, hx, hy, Sem.run_bind, Sem.run_pure, Result.andThen_ok, hl]
def zerosL (t : Nat) : List Int := List.replicate t 0
set_option maxRecDepth 100000 in
set_option maxHeartbeats 1000000 in
theorem lnew_yes (t : Nat) (w : World) (h0 : 8 ≤ t) (h1 : t ≤ 1024) : Calls Try.prog 8 #[.int .i64 ((8 * t : Nat) : Int)] w fun e w' => ∃ B C, e = .returned (.tuple #[.pointer (some ⟨B, 0, none⟩), .int .i64 0]) ∧ FlAt w' B C (zerosL t) ∧ w.heap.size ≤ B ∧ w.heap.size ≤ C ∧ Kp Nb w w' := by
  obtain ⟨s, hs⟩ : ∃ s : Int, ((8 * t : Nat) : Int) = s := ⟨_, rfl⟩
  have hf := fitL_8 t h0 h1
  rw [hs] at hf ⊢
  have CF : Hid (∀ w, Calls Try.prog 13 #[.int .i64 s] w fun e w' => e = .returned (.bool true) ∧ w = w') := hid (fun w => by
    have h := lfits_any s w (by omega) (by omega)
    rw [hf] at h
    exact h)
  have T1 : s.tdiv 8 = (t : Int) := by rw [Int.tdiv_eq_ediv_of_nonneg (by omega)]; omega
  have T2 : s / 8 = (t : Int) := by omega
  have T3 : (0 : Int) ≤ s := by omega
  have T4 : wrap64 (t : Int) = (t : Int) := by unfold wrap64; omega
  have MK := make_bytesL w t (by omega)
  obtain ⟨N, hN⟩ : ∃ N, w.heap.size = N := ⟨_, rfl⟩
  rw [hN] at MK
  obtain ⟨W, hW⟩ : ∃ W, w.alloc (.cells (List.replicate t (Value.int .u8 0)).toArray 5 (0, 0)) = W := ⟨_, rfl⟩
  rw [hW] at MK
  have HC : Hid (Blk W N 5 (List.replicate t (Value.int .u8 0))) := hid (by rw [← hW, ← hN]; exact Blk.new w _ _)
  have KW : Hid (Kp Nb w W) := hid (by rw [← hW]; exact (Kp.refl Nb w).alloc _)
  have HT : Hid (8 ≤ t ∧ t ≤ 1024) := hid ⟨h0, h1⟩
  have LN : Hid (w.heap.size ≤ N) := hid (Nat.le_of_eq hN)
  clear hs hf h0 h1 hW hN
  go_enter Try.func8, Try.ntmps8
  go_wp2_with fail
  refine (CF.out _).mono ?_
  rintro e w1 ⟨rfl, rfl⟩
  go_wp2_with (refine wpList_val (by rfl) _ _ (exec_mksliceL rfl rfl rfl MK) ?_)
  go_ret2
  refine ⟨_, _, rfl, ⟨fun i => by unfold zerosL; exact IsBytes.zeros t i, ⟨t, [], ?_, ?_, by unfold zerosL; rw [List.length_replicate]; exact Nat.le_refl _, by unfold maxLen; have := HT.out; omega⟩, by unfold zerosL; rw [List.length_replicate]; exact HT.out, fun e => ?_⟩, ?_, LN.out, KW.out.alloc _⟩
  · have h := Blk.new W 60 [.slice (some ⟨N, 0, none⟩) t t]
    unfold zerosL
    rw [List.length_replicate]
    exact h
  · unfold zerosL
    rw [List.append_nil, List.map_replicate]
    exact HC.out.alloc _
  · have := HC.out.lt; omega
  · exact KW.out.size
set_option maxHeartbeats 400000 in
theorem lnew_no (n : Int) (w : World) (h0 : -9223372036854775808 ≤ n) (h1 : n < 9223372036854775808) (hf : fitL n = false) : Calls Try.prog 8 #[.int .i64 n] w fun e w' => e = .returned (.tuple #[.pointer none, .int .i64 2]) ∧ w = w' := by
  have CF : Hid (∀ w, Calls Try.prog 13 #[.int .i64 n] w fun e w' => e = .returned (.bool false) ∧ w = w') := hid (fun w => by
    have h := lfits_any n w h0 h1
    rw [hf] at h
    exact h)
  clear h0 h1 hf
  go_enter Try.func8, Try.ntmps8
  go_wp2_with fail
  refine (CF.out _).mono ?_
  rintro e w1 ⟨rfl, rfl⟩
  go_wp2
  go_ret2
  exact ⟨rfl, rfl⟩
set_option maxRecDepth 100000 in
set_option maxHeartbeats 1000000 in
theorem pop_any (x : Int) (w : World) (h0 : 0 ≤ x) (h1 : x ≤ 255) :
    Calls Try.prog 33 #[.int .u8 x] w fun e w' => e = .returned (.int .i64 (Lib.onesCount x.toNat)) ∧ w = w' := by
  rw [← Lib.pop8_int x h0 h1]
  go_enter Try.func33, Try.ntmps33
  go_wp2
  go_ret
  generalize Lib.pop8 x = p
  exact ⟨by show Ending.returned (Value.int IntKind.i64 (wrap64 p)) = _; unfold wrap64; rfl, rfl⟩

/-- How many bits are set. -/
def cntB (zs : List Int) : Nat := zs.foldl (fun a z => a + Lib.onesCount z.toNat) 0
theorem cntB_snoc (zs : List Int) (z : Int) : cntB (zs ++ [z]) = cntB zs + Lib.onesCount z.toNat := by unfold cntB; rw [List.foldl_append]; rfl
theorem cntB_take (zs : List Int) (k : Nat) (h : k < zs.length) : cntB (zs.take (k + 1)) = cntB (zs.take k) + Lib.onesCount (zs[k]?.getD 0).toNat := by
  rw [List.take_succ_eq_append_getElem h, cntB_snoc, List.getElem?_eq_getElem h, Option.getD_some]
theorem pop_le (z : Int) (h0 : 0 ≤ z) (h1 : z < 256) : Lib.onesCount z.toNat ≤ 8 := by
  have h := Lib.onesCount_le8 ⟨z.toNat, by omega⟩
  exact h
theorem cntB_le (zs : List Int) (hz : IsBytes zs) : ∀ k, k ≤ zs.length → cntB (zs.take k) ≤ 8 * k
  | 0, _ => by rw [List.take_zero]; exact Nat.le_refl _
  | k + 1, h => by
    rw [cntB_take zs k (by omega)]
    have h1 := cntB_le zs hz k (by omega)
    have h2 := pop_le (zs[k]?.getD 0) (hz k).1 (hz k).2
    omega
def CtR (zs : List Int) (n : Nat) (w1 : World) (i c : Value) (wr : World) : Prop := ∃ k : Nat, k ≤ n ∧ i = .int .i64 k ∧ c = .int .i64 (cntB (zs.take k)) ∧ w1 = wr
set_option maxRecDepth 100000 in
set_option maxHeartbeats 1000000 in
theorem lcount_any (B C : Nat) (zs : List Int) (w : World) (h : FlAt w B C zs) : Calls Try.prog 16 #[.pointer (some ⟨B, 0, none⟩)] w fun e w' => e = .returned (.int .i64 (cntB zs : Nat)) ∧ w = w' := by
  obtain ⟨cap, rest, h1, h2, h3, h4⟩ := h.at'
  have c0 := h1.cell 0
  simp only [List.getElem?_cons_zero] at c0
  have HZ := hid h.ok
  have hs := h.size
  have H2 := hid h2
  obtain ⟨n, hn⟩ : ∃ n, zs.length = n := ⟨_, rfl⟩
  rw [hn] at c0 hs h3
  have HN := hid hn
  unfold maxLen at h4
  have HS := hid hs
  clear h h1 h2 hn
  go_enter Try.func16, Try.ntmps16
  go_wp2
  go_loopw [13, 3] (CtR zs n w) (fun i _ _ => n - (intOf i).toNat)
  case atStart => exact ⟨0, Nat.zero_le _, rfl, rfl, rfl⟩
  case round =>
    obtain ⟨k, hk, rfl, rfl, rfl⟩ := hrel
    by_cases hlt : k < n
    · obtain ⟨z, hz⟩ : ∃ z, zs[k]?.getD 0 = z := ⟨_, rfl⟩
      have hzr : 0 ≤ z ∧ z < 256 := by rw [← hz]; exact HZ.out k
      have cz : w.cell? ⟨C, k, none⟩ = some (.int .u8 z) := by
        rw [H2.out.cell k, List.getElem?_append_left (by rw [List.length_map, HN.out]; exact hlt), List.getElem?_map, List.getElem?_eq_getElem (by rw [HN.out]; exact hlt), Option.map_some]
        rw [List.getElem?_eq_getElem (by rw [HN.out]; exact hlt), Option.getD_some] at hz
        rw [hz]
      have CP : Hid (∀ w, Calls Try.prog 33 #[.int .u8 z] w fun e w' => e = .returned (.int .i64 (Lib.onesCount z.toNat)) ∧ w = w') := hid (fun w => pop_any z w hzr.1 (by omega))
      have HT := hid (cntB_take zs k (by rw [HN.out]; exact hlt))
      rw [hz] at HT
      have hp8 := pop_le z hzr.1 hzr.2
      have hc8 := cntB_le zs HZ.out k (by rw [HN.out]; exact hk)
      obtain ⟨p, hp⟩ : ∃ p, Lib.onesCount z.toNat = p := ⟨_, rfl⟩
      obtain ⟨c, hcc⟩ : ∃ c, cntB (zs.take k) = c := ⟨_, rfl⟩
      rw [hp] at CP HT hp8
      rw [hcc] at HT hc8 ⊢
      clear hz hp hcc
      go_wp2_with fail
      refine (CP.out _).mono ?_
      rintro e w2 ⟨rfl, rfl⟩
      go_wp2
      go_roundw
      case rel => exact ⟨k + 1, by omega, by go_num, by rw [HT.out]; go_num, rfl⟩
      case measure => simp [intOf]; omega
    · obtain rfl : k = n := by omega
      have e : zs.take k = zs := List.take_of_length_le (by rw [HN.out]; exact Nat.le_refl _)
      rw [e]
      go_wp2
      go_ret
      exact ⟨rfl, rfl⟩

end Go.Proofs.Ytpgiinogfmhfiaa

namespace Go.Proofs.Ytpgiinogfmhfiaa
open Go.RowKit

def bitB (zs : List Int) (p : Nat) : Int := zs[p / 8]?.getD 0 / 2 ^ (p % 8) % 2
def mayB (zs m : List Int) : Bool := (List.range 4).all fun i => bitB zs (plb ((8 * zs.length : Nat) : Int) m i) == 1
theorem and_one (a : Int) (h : 0 ≤ a ∧ a < 256) : bits .and .u8 a 1 = a % 2 := by
  have hA : (BitVec.ofInt 8 a).toNat = a.toNat := by rw [BitVec.toNat_ofInt]; omega
  have hB : bits .and .u8 a 1 = IntKind.u8.wrap (((BitVec.ofInt 8 a &&& BitVec.ofInt 8 1).toNat : Nat) : Int) := rfl
  have hC : (BitVec.ofInt 8 a &&& BitVec.ofInt 8 1).toNat = a.toNat % 2 := by
    rw [BitVec.toNat_and, hA]
    exact Nat.and_one_is_mod _
  rw [hB, hC, IntKind.wrap_u8]
  omega
theorem shr_rng (z : Int) (e : Nat) (h : 0 ≤ z ∧ z < 256) : 0 ≤ z / 2 ^ e ∧ z / 2 ^ e < 256 := by
  have hp : (0 : Int) < 2 ^ e := Int.pow_pos (by decide)
  refine ⟨Int.ediv_nonneg h.1 (by omega), ?_⟩
  have := Int.ediv_le_self (2 ^ e : Int) h.1
  omega
def MaR (zs m : List Int) (s : Int) (w1 : World) (i : Value) (wr : World) : Prop := ∃ k : Nat, k ≤ 4 ∧ i = .int .i64 k ∧ w1 = wr ∧ ∀ i, i < k → bitB zs (plb s m i) = 1
theorem idx_arr4_0 (p0 p1 p2 p3 : Nat) (w : World) : (Instr.index 39 (.agg #[.int .i64 (p0 : Int), .int .i64 (p1 : Int), .int .i64 (p2 : Int), .int .i64 (p3 : Int)]) (.int .i64 0)).run Try.prog w = .ok (.int .i64 (p0 : Int)) w := by kernel_rfl
theorem idx_arr4_1 (p0 p1 p2 p3 : Nat) (w : World) : (Instr.index 39 (.agg #[.int .i64 (p0 : Int), .int .i64 (p1 : Int), .int .i64 (p2 : Int), .int .i64 (p3 : Int)]) (.int .i64 1)).run Try.prog w = .ok (.int .i64 (p1 : Int)) w := by kernel_rfl
theorem idx_arr4_2 (p0 p1 p2 p3 : Nat) (w : World) : (Instr.index 39 (.agg #[.int .i64 (p0 : Int), .int .i64 (p1 : Int), .int .i64 (p2 : Int), .int .i64 (p3 : Int)]) (.int .i64 2)).run Try.prog w = .ok (.int .i64 (p2 : Int)) w := by kernel_rfl
theorem idx_arr4_3 (p0 p1 p2 p3 : Nat) (w : World) : (Instr.index 39 (.agg #[.int .i64 (p0 : Int), .int .i64 (p1 : Int), .int .i64 (p2 : Int), .int .i64 (p3 : Int)]) (.int .i64 3)).run Try.prog w = .ok (.int .i64 (p3 : Int)) w := by kernel_rfl
set_option maxRecDepth 100000 in
set_option maxHeartbeats 4000000 in
theorem lmay_any (B C : Nat) (zs m : List Int) (w : World) (h : FlAt w B C zs) (hm : MarkOk m) :
    Calls Try.prog 17 #[.pointer (some ⟨B, 0, none⟩), markV m] w fun e w' => e = .returned (.bool (mayB zs m)) ∧ Kp Nb w w' := by
  have HM := hid hm
  obtain ⟨N, hN⟩ : ∃ N, w.heap.size = N := ⟨_, rfl⟩
  obtain ⟨W, hW⟩ : ∃ W, W = w.alloc (.cells (markL m).toArray 24) := ⟨_, rfl⟩
  have H3 : Hid (Blk W N 24 (markL m)) := hid (by rw [hW, ← hN]; exact Blk.new w _ _)
  have kW : Kp Nb w W := by rw [hW]; exact (Kp.refl Nb w).alloc _
  have KW := hid kW
  have HF := hid (h.kept kW (fun h => h) (fun h => h))
  obtain ⟨n, hn⟩ : ∃ n, zs.length = n := ⟨_, rfl⟩
  have hs8 := h.size
  have HNZ := hid hn
  have HSZ : Hid (8 ≤ n ∧ n ≤ 1024) := hid (by rw [← hn]; exact hs8)
  have HZ := hid h.ok
  obtain ⟨s, hs⟩ : ∃ s : Int, ((8 * n : Nat) : Int) = s := ⟨_, rfl⟩
  have CB : Hid (∀ w', Kp Nb W w' → Calls Try.prog 15 #[.pointer (some ⟨B, 0, none⟩)] w' fun e w'' => e = .returned (.int .i64 s) ∧ w' = w'') := hid (fun w' k => by
    have h2 := lbits_any B C zs w' (HF.out.kept k (fun h => h) (fun h => h))
    rw [hn, hs] at h2
    exact h2)
  obtain ⟨p0, hp0⟩ : ∃ p, plb s m 0 = p := ⟨_, rfl⟩
  obtain ⟨p1, hp1⟩ : ∃ p, plb s m 1 = p := ⟨_, rfl⟩
  obtain ⟨p2, hp2⟩ : ∃ p, plb s m 2 = p := ⟨_, rfl⟩
  obtain ⟨p3, hp3⟩ : ∃ p, plb s m 3 = p := ⟨_, rfl⟩
  have CP : Hid (∀ w, Calls Try.prog 14 #[.int .i64 s, markV m] w fun e w' => e = .returned (.agg #[.int .i64 (p0 : Int), .int .i64 (p1 : Int), .int .i64 (p2 : Int), .int .i64 (p3 : Int)]) ∧ Kp Nb w w') := hid (fun w => by
    have h2 := lplaces_any n m w hm (by omega) (by omega)
    rw [hs] at h2
    have e : plbV s m = .agg #[.int .i64 (p0 : Int), .int .i64 (p1 : Int), .int .i64 (p2 : Int), .int .i64 (p3 : Int)] := by unfold plbV plbL; simp [hp0, hp1, hp2, hp3]
    rw [e] at h2
    exact h2)
  have HP : Hid (plb s m 0 = p0 ∧ plb s m 1 = p1 ∧ plb s m 2 = p2 ∧ plb s m 3 = p3) := hid ⟨hp0, hp1, hp2, hp3⟩
  have HPB : Hid (p0 < 8 * n ∧ p1 < 8 * n ∧ p2 < 8 * n ∧ p3 < 8 * n) := hid (by
    have b0 := plb_lt s m 0 (by omega)
    have b1 := plb_lt s m 1 (by omega)
    have b2 := plb_lt s m 2 (by omega)
    have b3 := plb_lt s m 3 (by omega)
    omega)
  have HS := hid hs
  have HMB : Hid (mayB zs m = (List.range 4).all fun i => bitB zs (plb s m i) == 1) := hid (by unfold mayB; rw [hn, hs])
  have LN : Hid (w.heap.size ≤ N) := hid (Nat.le_of_eq hN)
  have LBC : Hid (B < N ∧ C < N) := hid (by have := h.lt; rw [hN] at this; exact this)
  clear kW hs8 hn hs hp0 hp1 hp2 hp3 h hm
  go_enter Try.func17, Try.ntmps17
  go_upto_region 3 with fail
  rw [show w.alloc (.cells (markL m).toArray 24) = W from hW.symm]
  clear hW hN
  refine region_vals2 [none, none, none, none, none, none, none, none, none, some 0, some 1, some 2, some 3, some 4, none, none, none, none, none, none, none, none, none, none, none, none, none, none, none, none] [[(0, none)], [(9, some 0)], [(3, none)], [(10, some 1), (11, some 2)], []] [some 9, some 10, some 11, some 12, some 13] [.pointer (some ⟨B, 0, none⟩), .int .i64 s, markV m, .agg #[.int .i64 (p0 : Int), .int .i64 (p1 : Int), .int .i64 (p2 : Int), .int .i64 (p3 : Int)], .int .i64 0] (fun w' => Hid (Kp Nb W w')) (by kernel_rfl) (by kernel_rfl) (by kernel_rfl) ?hS (VFrom.all (n := 5) (by kernel_rfl) ?hstep) ?hend
  case hstep =>
    refine VFrom.cons (VStep.val _ rfl _ rfl (.pointer (some ⟨B, 0, none⟩)) rfl trivial (fun ev wq hS he hr => ?_)) ?_
    · have r0 : ev (.tmp 0) = .pointer (some ⟨B, 0, none⟩) := hr (0, none) (by simp); have hk := he.1; clear hr he
      go_simp
    refine VFrom.cons (VStep.call _ rfl _ rfl (.int .i64 s) rfl trivial 15 #[.pointer (some ⟨B, 0, none⟩)] (fun ev wq hS he hr => ?_) (fun wq hS => ?_)) ?_
    · have r0 : ev (.tmp 9) = .pointer (some ⟨B, 0, none⟩) := hr (9, some 0) (by simp); have hk := he.1; have hf := he.2; clear hr he
      go_simp
    · exact (CB.out wq hS.out).mono fun e w' ⟨h1, h2⟩ => ⟨h1, by rw [← h2]; exact hS⟩
    refine VFrom.cons (VStep.val _ rfl _ rfl (markV m) rfl trivial (fun ev wq hS he hr => ?_)) ?_
    · have r0 : ev (.tmp 3) = .pointer (some ⟨N, 0, none⟩) := hr (3, none) (by simp); have hk := he.1; clear hr he
      exact exec_load rfl r0 (load_mark HM.out (range_of (H3.out.kept hS.out (fun h => h))))
    refine VFrom.cons (VStep.call _ rfl _ rfl (.agg #[.int .i64 (p0 : Int), .int .i64 (p1 : Int), .int .i64 (p2 : Int), .int .i64 (p3 : Int)]) rfl trivial 14 #[.int .i64 s, markV m] (fun ev wq hS he hr => ?_) (fun wq hS => ?_)) ?_
    · have r0 : ev (.tmp 10) = .int .i64 s := hr (10, some 1) (by simp); have r1 : ev (.tmp 11) = markV m := hr (11, some 2) (by simp); have hk := he.1; have hf := he.2; clear hr he
      go_simp
    · exact (CP.out wq).mono fun e w' ⟨h1, h2⟩ => ⟨h1, hid (hS.out.trans h2 (fun _ _ h => h))⟩
    refine VFrom.cons (VStep.val _ rfl _ rfl (.int .i64 0) rfl trivial (fun ev wq hS he hr => ?_)) ?_
    · have hk := he.1; clear hr he
      go_simp
    exact VFrom.nil
  case hS => exact hid (Kp.refl Nb W).drew
  case hend =>
    intro w1 k1
    have HF1 := hid (HF.out.kept k1.out (fun h => h) (fun h => h))
    have K1 := hid (KW.out.trans k1.out (fun _ _ h => h))
    clear k1 H3 HF KW CB CP
    simp only [putAll, List.zip_cons_cons, List.zip_nil_right, List.foldl_cons, List.foldl_nil, Act.put, List.setIfInBounds_toArray, List.set_cons_zero, List.set_cons_succ]
    go_wp2
    go_loopw [13] (MaR zs m s w1) (fun i _ => 4 - (intOf i).toNat)
    case atStart => exact ⟨0, by omega, rfl, rfl, fun i hi => by omega⟩
    case round =>
      obtain ⟨k, hk, rfl, rfl, HB⟩ := hrel
      rcases k with _ | _ | _ | _ | k
      · have hb := HPB.out
        have hsz := HSZ.out
        obtain ⟨i, hi⟩ : ∃ i, p0 / 8 = i := ⟨_, rfl⟩
        obtain ⟨e8, he8⟩ : ∃ i, p0 % 8 = i := ⟨_, rfl⟩
        have T1 : (p0 : Int).tdiv 8 = (i : Int) := by rw [Int.tdiv_eq_ediv_of_nonneg (by omega)]; omega
        have T2 : (p0 : Int).tmod 8 = (e8 : Int) := by rw [Int.tmod_eq_emod_of_nonneg (by omega)]; omega
        have T3 : (p0 : Int) / 8 = (i : Int) := by omega
        have T4 : (p0 : Int) % 8 = (e8 : Int) := by omega
        have hin : i < n := by omega
        have he7 : e8 < 8 := by omega
        obtain ⟨cap, rest, h1, h2, h3, h4⟩ := HF1.out.at'
        rw [HNZ.out] at h1 h3
        have c0 := h1.cell 0
        simp only [List.getElem?_cons_zero] at c0
        obtain ⟨z, hz⟩ : ∃ z, zs[i]?.getD 0 = z := ⟨_, rfl⟩
        have hzr : 0 ≤ z ∧ z < 256 := by rw [← hz]; exact HZ.out i
        have cz : w1.cell? ⟨C, i, none⟩ = some (.int .u8 z) := by
          rw [h2.cell i, List.getElem?_append_left (by rw [List.length_map, HNZ.out]; exact hin), List.getElem?_map, List.getElem?_eq_getElem (by rw [HNZ.out]; exact hin), Option.map_some]
          rw [List.getElem?_eq_getElem (by rw [HNZ.out]; exact hin), Option.getD_some] at hz
          rw [hz]
        unfold maxLen at h4
        have hin2 : i ≤ 1024 := by omega
        have HI := hid hi
        have HE8 := hid he8
        have HZV := hid hz
        clear h1 h2 hi he8 hb hsz hz
        have hix := idx_arr4_0 p0 p1 p2 p3
        have hzq : 0 ≤ z / 2 ^ e8 ∧ z / 2 ^ e8 < 256 := shr_rng z e8 hzr
        have hv := and_one (z / 2 ^ e8) hzq
        by_cases hb1 : z / 2 ^ e8 % 2 = 1
        · rw [hb1] at hv
          have RL : Hid (∀ i, i < 0 + 1 → bitB zs (plb s m i) = 1) := hid (fun j hj => by
            rcases Nat.lt_or_ge j 0 with h | h
            · exact HB j (by omega)
            · obtain rfl : j = 0 := by omega
              rw [HP.out.1]
              unfold bitB
              rw [HI.out, HE8.out, HZV.out]
              exact hb1)
          clear hb1 hzq HB
          go_wp2
          exact ⟨⟨0 + 1, by omega, rfl, rfl, RL.out⟩, by simp [intOf]⟩
        · have hv0 : z / 2 ^ e8 % 2 = 0 := by omega
          rw [hv0] at hv
          have RF : Hid (mayB zs m = false) := hid (by
            rw [HMB.out]
            refine List.all_eq_false.2 ⟨0, by simp, ?_⟩
            rw [HP.out.1]
            unfold bitB
            rw [HI.out, HE8.out, HZV.out, hv0]
            decide)
          clear hb1 hv0 hzq HB
          go_wp2
          go_ret
          exact ⟨by rw [RF.out]; rfl, K1.out⟩
      · have hb := HPB.out
        have hsz := HSZ.out
        obtain ⟨i, hi⟩ : ∃ i, p1 / 8 = i := ⟨_, rfl⟩
        obtain ⟨e8, he8⟩ : ∃ i, p1 % 8 = i := ⟨_, rfl⟩
        have T1 : (p1 : Int).tdiv 8 = (i : Int) := by rw [Int.tdiv_eq_ediv_of_nonneg (by omega)]; omega
        have T2 : (p1 : Int).tmod 8 = (e8 : Int) := by rw [Int.tmod_eq_emod_of_nonneg (by omega)]; omega
        have T3 : (p1 : Int) / 8 = (i : Int) := by omega
        have T4 : (p1 : Int) % 8 = (e8 : Int) := by omega
        have hin : i < n := by omega
        have he7 : e8 < 8 := by omega
        obtain ⟨cap, rest, h1, h2, h3, h4⟩ := HF1.out.at'
        rw [HNZ.out] at h1 h3
        have c0 := h1.cell 0
        simp only [List.getElem?_cons_zero] at c0
        obtain ⟨z, hz⟩ : ∃ z, zs[i]?.getD 0 = z := ⟨_, rfl⟩
        have hzr : 0 ≤ z ∧ z < 256 := by rw [← hz]; exact HZ.out i
        have cz : w1.cell? ⟨C, i, none⟩ = some (.int .u8 z) := by
          rw [h2.cell i, List.getElem?_append_left (by rw [List.length_map, HNZ.out]; exact hin), List.getElem?_map, List.getElem?_eq_getElem (by rw [HNZ.out]; exact hin), Option.map_some]
          rw [List.getElem?_eq_getElem (by rw [HNZ.out]; exact hin), Option.getD_some] at hz
          rw [hz]
        unfold maxLen at h4
        have hin2 : i ≤ 1024 := by omega
        have HI := hid hi
        have HE8 := hid he8
        have HZV := hid hz
        clear h1 h2 hi he8 hb hsz hz
        have hix := idx_arr4_1 p0 p1 p2 p3
        have hzq : 0 ≤ z / 2 ^ e8 ∧ z / 2 ^ e8 < 256 := shr_rng z e8 hzr
        have hv := and_one (z / 2 ^ e8) hzq
        by_cases hb1 : z / 2 ^ e8 % 2 = 1
        · rw [hb1] at hv
          have RL : Hid (∀ i, i < 1 + 1 → bitB zs (plb s m i) = 1) := hid (fun j hj => by
            rcases Nat.lt_or_ge j 1 with h | h
            · exact HB j (by omega)
            · obtain rfl : j = 1 := by omega
              rw [HP.out.2.1]
              unfold bitB
              rw [HI.out, HE8.out, HZV.out]
              exact hb1)
          clear hb1 hzq HB
          go_wp2
          exact ⟨⟨1 + 1, by omega, rfl, rfl, RL.out⟩, by simp [intOf]⟩
        · have hv0 : z / 2 ^ e8 % 2 = 0 := by omega
          rw [hv0] at hv
          have RF : Hid (mayB zs m = false) := hid (by
            rw [HMB.out]
            refine List.all_eq_false.2 ⟨1, by simp, ?_⟩
            rw [HP.out.2.1]
            unfold bitB
            rw [HI.out, HE8.out, HZV.out, hv0]
            decide)
          clear hb1 hv0 hzq HB
          go_wp2
          go_ret
          exact ⟨by rw [RF.out]; rfl, K1.out⟩
      · have hb := HPB.out
        have hsz := HSZ.out
        obtain ⟨i, hi⟩ : ∃ i, p2 / 8 = i := ⟨_, rfl⟩
        obtain ⟨e8, he8⟩ : ∃ i, p2 % 8 = i := ⟨_, rfl⟩
        have T1 : (p2 : Int).tdiv 8 = (i : Int) := by rw [Int.tdiv_eq_ediv_of_nonneg (by omega)]; omega
        have T2 : (p2 : Int).tmod 8 = (e8 : Int) := by rw [Int.tmod_eq_emod_of_nonneg (by omega)]; omega
        have T3 : (p2 : Int) / 8 = (i : Int) := by omega
        have T4 : (p2 : Int) % 8 = (e8 : Int) := by omega
        have hin : i < n := by omega
        have he7 : e8 < 8 := by omega
        obtain ⟨cap, rest, h1, h2, h3, h4⟩ := HF1.out.at'
        rw [HNZ.out] at h1 h3
        have c0 := h1.cell 0
        simp only [List.getElem?_cons_zero] at c0
        obtain ⟨z, hz⟩ : ∃ z, zs[i]?.getD 0 = z := ⟨_, rfl⟩
        have hzr : 0 ≤ z ∧ z < 256 := by rw [← hz]; exact HZ.out i
        have cz : w1.cell? ⟨C, i, none⟩ = some (.int .u8 z) := by
          rw [h2.cell i, List.getElem?_append_left (by rw [List.length_map, HNZ.out]; exact hin), List.getElem?_map, List.getElem?_eq_getElem (by rw [HNZ.out]; exact hin), Option.map_some]
          rw [List.getElem?_eq_getElem (by rw [HNZ.out]; exact hin), Option.getD_some] at hz
          rw [hz]
        unfold maxLen at h4
        have hin2 : i ≤ 1024 := by omega
        have HI := hid hi
        have HE8 := hid he8
        have HZV := hid hz
        clear h1 h2 hi he8 hb hsz hz
        have hix := idx_arr4_2 p0 p1 p2 p3
        have hzq : 0 ≤ z / 2 ^ e8 ∧ z / 2 ^ e8 < 256 := shr_rng z e8 hzr
        have hv := and_one (z / 2 ^ e8) hzq
        by_cases hb1 : z / 2 ^ e8 % 2 = 1
        · rw [hb1] at hv
          have RL : Hid (∀ i, i < 2 + 1 → bitB zs (plb s m i) = 1) := hid (fun j hj => by
            rcases Nat.lt_or_ge j 2 with h | h
            · exact HB j (by omega)
            · obtain rfl : j = 2 := by omega
              rw [HP.out.2.2.1]
              unfold bitB
              rw [HI.out, HE8.out, HZV.out]
              exact hb1)
          clear hb1 hzq HB
          go_wp2
          exact ⟨⟨2 + 1, by omega, rfl, rfl, RL.out⟩, by simp [intOf]⟩
        · have hv0 : z / 2 ^ e8 % 2 = 0 := by omega
          rw [hv0] at hv
          have RF : Hid (mayB zs m = false) := hid (by
            rw [HMB.out]
            refine List.all_eq_false.2 ⟨2, by simp, ?_⟩
            rw [HP.out.2.2.1]
            unfold bitB
            rw [HI.out, HE8.out, HZV.out, hv0]
            decide)
          clear hb1 hv0 hzq HB
          go_wp2
          go_ret
          exact ⟨by rw [RF.out]; rfl, K1.out⟩
      · have hb := HPB.out
        have hsz := HSZ.out
        obtain ⟨i, hi⟩ : ∃ i, p3 / 8 = i := ⟨_, rfl⟩
        obtain ⟨e8, he8⟩ : ∃ i, p3 % 8 = i := ⟨_, rfl⟩
        have T1 : (p3 : Int).tdiv 8 = (i : Int) := by rw [Int.tdiv_eq_ediv_of_nonneg (by omega)]; omega
        have T2 : (p3 : Int).tmod 8 = (e8 : Int) := by rw [Int.tmod_eq_emod_of_nonneg (by omega)]; omega
        have T3 : (p3 : Int) / 8 = (i : Int) := by omega
        have T4 : (p3 : Int) % 8 = (e8 : Int) := by omega
        have hin : i < n := by omega
        have he7 : e8 < 8 := by omega
        obtain ⟨cap, rest, h1, h2, h3, h4⟩ := HF1.out.at'
        rw [HNZ.out] at h1 h3
        have c0 := h1.cell 0
        simp only [List.getElem?_cons_zero] at c0
        obtain ⟨z, hz⟩ : ∃ z, zs[i]?.getD 0 = z := ⟨_, rfl⟩
        have hzr : 0 ≤ z ∧ z < 256 := by rw [← hz]; exact HZ.out i
        have cz : w1.cell? ⟨C, i, none⟩ = some (.int .u8 z) := by
          rw [h2.cell i, List.getElem?_append_left (by rw [List.length_map, HNZ.out]; exact hin), List.getElem?_map, List.getElem?_eq_getElem (by rw [HNZ.out]; exact hin), Option.map_some]
          rw [List.getElem?_eq_getElem (by rw [HNZ.out]; exact hin), Option.getD_some] at hz
          rw [hz]
        unfold maxLen at h4
        have hin2 : i ≤ 1024 := by omega
        have HI := hid hi
        have HE8 := hid he8
        have HZV := hid hz
        clear h1 h2 hi he8 hb hsz hz
        have hix := idx_arr4_3 p0 p1 p2 p3
        have hzq : 0 ≤ z / 2 ^ e8 ∧ z / 2 ^ e8 < 256 := shr_rng z e8 hzr
        have hv := and_one (z / 2 ^ e8) hzq
        by_cases hb1 : z / 2 ^ e8 % 2 = 1
        · rw [hb1] at hv
          have RL : Hid (∀ i, i < 3 + 1 → bitB zs (plb s m i) = 1) := hid (fun j hj => by
            rcases Nat.lt_or_ge j 3 with h | h
            · exact HB j (by omega)
            · obtain rfl : j = 3 := by omega
              rw [HP.out.2.2.2]
              unfold bitB
              rw [HI.out, HE8.out, HZV.out]
              exact hb1)
          clear hb1 hzq HB
          go_wp2
          exact ⟨⟨3 + 1, by omega, rfl, rfl, RL.out⟩, by simp [intOf]⟩
        · have hv0 : z / 2 ^ e8 % 2 = 0 := by omega
          rw [hv0] at hv
          have RF : Hid (mayB zs m = false) := hid (by
            rw [HMB.out]
            refine List.all_eq_false.2 ⟨3, by simp, ?_⟩
            rw [HP.out.2.2.2]
            unfold bitB
            rw [HI.out, HE8.out, HZV.out, hv0]
            decide)
          clear hb1 hv0 hzq HB
          go_wp2
          go_ret
          exact ⟨by rw [RF.out]; rfl, K1.out⟩
      · obtain rfl : k = 0 := by omega
        have RT : Hid (mayB zs m = true) := hid (by
          rw [HMB.out]
          refine List.all_eq_true.2 (fun j hj => ?_)
          rw [HB j (List.mem_range.1 hj)]
          rfl)
        clear HB
        go_wp2
        go_ret
        exact ⟨by rw [RT.out]; rfl, K1.out⟩

/-- A bit set. -/
def setB (zs : List Int) (p : Nat) : List Int := zs.set (p / 8) (bits .or .u8 (zs[p / 8]?.getD 0) (2 ^ (p % 8)))
/-- The first k places' bits set. -/
def addK (zs m : List Int) (s : Int) (k : Nat) : List Int := (List.range k).foldl (fun a i => setB a (plb s m i)) zs
def addL (zs m : List Int) : List Int := addK zs m ((8 * zs.length : Nat) : Int) 4
theorem setB_length (zs : List Int) (p : Nat) : (setB zs p).length = zs.length := by unfold setB; rw [List.length_set]
theorem addK_succ (zs m : List Int) (s : Int) (k : Nat) : addK zs m s (k + 1) = setB (addK zs m s k) (plb s m k) := by unfold addK; rw [List.range_succ, List.foldl_append]; rfl
theorem addK_length (zs m : List Int) (s : Int) : ∀ k, (addK zs m s k).length = zs.length
  | 0 => rfl
  | k + 1 => by rw [addK_succ, setB_length, addK_length zs m s k]
theorem addL_length (zs m : List Int) : (addL zs m).length = zs.length := addK_length _ _ _ _
theorem pow8_rng (e : Nat) (h : e < 8) : (1 : Int) ≤ 2 ^ e ∧ (2 : Int) ^ e < 256 := by
  rcases e with _ | _ | _ | _ | _ | _ | _ | _ | e
  all_goals first | (exact ⟨by decide, by decide⟩) | omega
theorem or8_rng (a b : Int) : 0 ≤ bits .or .u8 a b ∧ bits .or .u8 a b < 256 := by
  unfold bits
  show 0 ≤ IntKind.u8.wrap _ ∧ IntKind.u8.wrap _ < _
  rw [IntKind.wrap_u8]
  omega
theorem FlAt.set {w : World} {B C : Nat} {zs : List Int} (h : FlAt w B C zs) (i : Nat) (x : Int) (hi : i < zs.length) (hx : 0 ≤ x ∧ x < 256) : FlAt (w.setCell ⟨C, i, none⟩ (.int .u8 x)) B C (zs.set i x) := by
  obtain ⟨cap, rest, h1, h2, h3, h4⟩ := h.at'
  have kc : Kp (Jb C) w (w.setCell ⟨C, i, none⟩ (.int .u8 x)) := (Kp.refl (Jb C) w).set i _
  refine ⟨fun j => ?_, ⟨cap, rest, ?_, ?_, by rw [List.length_set]; exact h3, h4⟩, by rw [List.length_set]; exact h.size, h.ne⟩
  · by_cases e : i = j
    · subst e; rw [List.getElem?_set_self hi]; exact hx
    · rw [List.getElem?_set_ne e]; exact h.ok j
  · rw [List.length_set]
    exact h1.kept kc (fun e => h.ne e)
  · have h5 := h2.set i (.int .u8 x)
    rw [List.set_append_left _ _ (by rw [List.length_map]; exact hi), ← List.map_set] at h5
    exact h5
def AdR (zs m : List Int) (s : Int) (B C : Nat) (w1 : World) (i : Value) (wr : World) : Prop := ∃ k : Nat, k ≤ 4 ∧ i = .int .i64 k ∧ Hid (FlAt wr B C (addK zs m s k)) ∧ Hid (Kp (Jb C) w1 wr)
set_option maxRecDepth 100000 in
set_option maxHeartbeats 8000000 in
theorem ladd_any (B C : Nat) (zs m : List Int) (w : World) (h : FlAt w B C zs) (hm : MarkOk m) :
    Calls Try.prog 10 #[.pointer (some ⟨B, 0, none⟩), markV m] w fun e w' => e = .returned (.tuple #[]) ∧ FlAt w' B C (addL zs m) ∧ Kp (Jb C) w w' := by
  have HM := hid hm
  obtain ⟨N, hN⟩ : ∃ N, w.heap.size = N := ⟨_, rfl⟩
  obtain ⟨W, hW⟩ : ∃ W, W = w.alloc (.cells (markL m).toArray 24) := ⟨_, rfl⟩
  have H3 : Hid (Blk W N 24 (markL m)) := hid (by rw [hW, ← hN]; exact Blk.new w _ _)
  have kW : Kp Nb w W := by rw [hW]; exact (Kp.refl Nb w).alloc _
  have KW := hid kW
  have HF := hid (h.kept kW (fun h => h) (fun h => h))
  obtain ⟨n, hn⟩ : ∃ n, zs.length = n := ⟨_, rfl⟩
  have hs8 := h.size
  have HNZ := hid hn
  have HSZ : Hid (8 ≤ n ∧ n ≤ 1024) := hid (by rw [← hn]; exact hs8)
  have HZ := hid h.ok
  obtain ⟨s, hs⟩ : ∃ s : Int, ((8 * n : Nat) : Int) = s := ⟨_, rfl⟩
  have CB : Hid (∀ w', Kp Nb W w' → Calls Try.prog 15 #[.pointer (some ⟨B, 0, none⟩)] w' fun e w'' => e = .returned (.int .i64 s) ∧ w' = w'') := hid (fun w' k => by
    have h2 := lbits_any B C zs w' (HF.out.kept k (fun h => h) (fun h => h))
    rw [hn, hs] at h2
    exact h2)
  obtain ⟨p0, hp0⟩ : ∃ p, plb s m 0 = p := ⟨_, rfl⟩
  obtain ⟨p1, hp1⟩ : ∃ p, plb s m 1 = p := ⟨_, rfl⟩
  obtain ⟨p2, hp2⟩ : ∃ p, plb s m 2 = p := ⟨_, rfl⟩
  obtain ⟨p3, hp3⟩ : ∃ p, plb s m 3 = p := ⟨_, rfl⟩
  have CP : Hid (∀ w, Calls Try.prog 14 #[.int .i64 s, markV m] w fun e w' => e = .returned (.agg #[.int .i64 (p0 : Int), .int .i64 (p1 : Int), .int .i64 (p2 : Int), .int .i64 (p3 : Int)]) ∧ Kp Nb w w') := hid (fun w => by
    have h2 := lplaces_any n m w hm (by omega) (by omega)
    rw [hs] at h2
    have e : plbV s m = .agg #[.int .i64 (p0 : Int), .int .i64 (p1 : Int), .int .i64 (p2 : Int), .int .i64 (p3 : Int)] := by unfold plbV plbL; simp [hp0, hp1, hp2, hp3]
    rw [e] at h2
    exact h2)
  have HP : Hid (plb s m 0 = p0 ∧ plb s m 1 = p1 ∧ plb s m 2 = p2 ∧ plb s m 3 = p3) := hid ⟨hp0, hp1, hp2, hp3⟩
  have HPB : Hid (p0 < 8 * n ∧ p1 < 8 * n ∧ p2 < 8 * n ∧ p3 < 8 * n) := hid (by
    have b0 := plb_lt s m 0 (by omega)
    have b1 := plb_lt s m 1 (by omega)
    have b2 := plb_lt s m 2 (by omega)
    have b3 := plb_lt s m 3 (by omega)
    omega)
  have HS := hid hs
  have HMB : Hid (mayB zs m = (List.range 4).all fun i => bitB zs (plb s m i) == 1) := hid (by unfold mayB; rw [hn, hs])
  have LN : Hid (w.heap.size ≤ N) := hid (Nat.le_of_eq hN)
  have LBC : Hid (B < N ∧ C < N) := hid (by have := h.lt; rw [hN] at this; exact this)
  clear kW hs8 hn hs hp0 hp1 hp2 hp3 h hm
  have HAD : Hid (addL zs m = addK zs m s 4) := hid (by unfold addL; rw [HNZ.out, HS.out])
  go_enter Try.func10, Try.ntmps10
  go_upto_region 2 with fail
  rw [show w.alloc (.cells (markL m).toArray 24) = W from hW.symm]
  clear hW hN
  refine region_vals2 [none, none, none, none, none, none, none, none, some 0, some 1, some 2, some 3, some 4, none, none, none, none, none, none, none, none, none, none, none, none, none, none, none, none] [[(0, none)], [(8, some 0)], [(3, none)], [(9, some 1), (10, some 2)], []] [some 8, some 9, some 10, some 11, some 12] [.pointer (some ⟨B, 0, none⟩), .int .i64 s, markV m, .agg #[.int .i64 (p0 : Int), .int .i64 (p1 : Int), .int .i64 (p2 : Int), .int .i64 (p3 : Int)], .int .i64 0] (fun w' => Hid (Kp Nb W w')) (by kernel_rfl) (by kernel_rfl) (by kernel_rfl) ?hS (VFrom.all (n := 5) (by kernel_rfl) ?hstep) ?hend
  case hstep =>
    refine VFrom.cons (VStep.val _ rfl _ rfl (.pointer (some ⟨B, 0, none⟩)) rfl trivial (fun ev wq hS he hr => ?_)) ?_
    · have r0 : ev (.tmp 0) = .pointer (some ⟨B, 0, none⟩) := hr (0, none) (by simp); have hk := he.1; clear hr he
      go_simp
    refine VFrom.cons (VStep.call _ rfl _ rfl (.int .i64 s) rfl trivial 15 #[.pointer (some ⟨B, 0, none⟩)] (fun ev wq hS he hr => ?_) (fun wq hS => ?_)) ?_
    · have r0 : ev (.tmp 8) = .pointer (some ⟨B, 0, none⟩) := hr (8, some 0) (by simp); have hk := he.1; have hf := he.2; clear hr he
      go_simp
    · exact (CB.out wq hS.out).mono fun e w' ⟨h1, h2⟩ => ⟨h1, by rw [← h2]; exact hS⟩
    refine VFrom.cons (VStep.val _ rfl _ rfl (markV m) rfl trivial (fun ev wq hS he hr => ?_)) ?_
    · have r0 : ev (.tmp 3) = .pointer (some ⟨N, 0, none⟩) := hr (3, none) (by simp); have hk := he.1; clear hr he
      exact exec_load rfl r0 (load_mark HM.out (range_of (H3.out.kept hS.out (fun h => h))))
    refine VFrom.cons (VStep.call _ rfl _ rfl (.agg #[.int .i64 (p0 : Int), .int .i64 (p1 : Int), .int .i64 (p2 : Int), .int .i64 (p3 : Int)]) rfl trivial 14 #[.int .i64 s, markV m] (fun ev wq hS he hr => ?_) (fun wq hS => ?_)) ?_
    · have r0 : ev (.tmp 9) = .int .i64 s := hr (9, some 1) (by simp); have r1 : ev (.tmp 10) = markV m := hr (10, some 2) (by simp); have hk := he.1; have hf := he.2; clear hr he
      go_simp
    · exact (CP.out wq).mono fun e w' ⟨h1, h2⟩ => ⟨h1, hid (hS.out.trans h2 (fun _ _ h => h))⟩
    refine VFrom.cons (VStep.val _ rfl _ rfl (.int .i64 0) rfl trivial (fun ev wq hS he hr => ?_)) ?_
    · have hk := he.1; clear hr he
      go_simp
    exact VFrom.nil
  case hS => exact hid (Kp.refl Nb W).drew
  case hend =>
    intro w1 k1
    have HF1 : Hid (FlAt w1 B C (addK zs m s 0)) := hid (HF.out.kept k1.out (fun h => h) (fun h => h))
    have K1 := hid (KW.out.trans k1.out (fun _ _ h => h))
    clear k1 H3 HF KW CB CP
    simp only [putAll, List.zip_cons_cons, List.zip_nil_right, List.foldl_cons, List.foldl_nil, Act.put, List.setIfInBounds_toArray, List.set_cons_zero, List.set_cons_succ]
    go_wp2
    go_loopw [12] (AdR zs m s B C w1) (fun i _ => 4 - (intOf i).toNat)
    case atStart => exact ⟨0, by omega, rfl, HF1, hid (Kp.refl _ _)⟩
    case round =>
      obtain ⟨k, hk, rfl, HA, HK⟩ := hrel
      rcases k with _ | _ | _ | _ | k
      · have hb := HPB.out
        have hsz := HSZ.out
        have hix := idx_arr4_0 p0 p1 p2 p3
        obtain ⟨ys, hys⟩ : ∃ ys, addK zs m s 0 = ys := ⟨_, rfl⟩
        have HY := hid hys
        have HFk : Hid (FlAt wr B C ys) := hid (by rw [← hys]; exact HA.out)
        have HYL : Hid (ys.length = n) := hid (by rw [← hys, addK_length]; exact HNZ.out)
        obtain ⟨i, hi⟩ : ∃ i, p0 / 8 = i := ⟨_, rfl⟩
        obtain ⟨e8, he8⟩ : ∃ i, p0 % 8 = i := ⟨_, rfl⟩
        have T1 : Hid ((p0 : Int).tdiv 8 = (i : Int)) := hid (by rw [Int.tdiv_eq_ediv_of_nonneg (by omega)]; omega)
        have T2 : Hid ((p0 : Int).tmod 8 = (e8 : Int)) := hid (by rw [Int.tmod_eq_emod_of_nonneg (by omega)]; omega)
        have T3 : Hid ((p0 : Int) / 8 = (i : Int)) := hid (by omega)
        have T4 : Hid ((p0 : Int) % 8 = (e8 : Int)) := hid (by omega)
        have hin : i < n := by omega
        have he7 : e8 < 8 := by omega
        obtain ⟨cap, rest, h1, h2, h3, h4⟩ := HFk.out.at'
        rw [HYL.out] at h1 h3
        have H1 := hid h1
        have H2 := hid h2
        obtain ⟨z, hz⟩ : ∃ z, ys[i]?.getD 0 = z := ⟨_, rfl⟩
        have CZ : Hid (wr.cell? ⟨C, i, none⟩ = some (.int .u8 z)) := hid (by
          rw [h2.cell i, List.getElem?_append_left (by rw [List.length_map, HYL.out]; exact hin), List.getElem?_map, List.getElem?_eq_getElem (by rw [HYL.out]; exact hin), Option.map_some]
          rw [List.getElem?_eq_getElem (by rw [HYL.out]; exact hin), Option.getD_some] at hz
          rw [hz])
        unfold maxLen at h4
        have hin2 : i ≤ 1024 := by omega
        obtain ⟨pw, hpw⟩ : ∃ x : Int, (2 : Int) ^ e8 = x := ⟨_, rfl⟩
        have hpr := pow8_rng e8 he7
        rw [hpw] at hpr
        have PW := hid hpw
        have PW2 : Hid (IntKind.u8.wrap pw = pw) := hid (by rw [IntKind.wrap_u8]; omega)
        have PW3 : Hid (IntKind.u8.wrap (2 ^ e8) = pw) := hid (by rw [hpw]; exact PW2.out)
        obtain ⟨zo, hzo⟩ : ∃ x, bits .or .u8 z pw = x := ⟨_, rfl⟩
        have ZO := hid hzo
        have WI : Hid (IntKind.i64.wrap (i : Int) = (i : Int)) := hid (by rw [IntKind.wrap_i64]; omega)
        have BD := hid (show i < n ∧ n ≤ cap ∧ e8 < 8 ∧ i ≤ 1024 from ⟨hin, h3, he7, hin2⟩)
        have HN1 : Hid (addK zs m s (0 + 1) = ys.set i zo) := hid (by rw [addK_succ, hys, HP.out.1]; unfold setB; rw [hi, he8, hz, hpw, hzo])
        have HZO : Hid (0 ≤ zo ∧ zo < 256) := hid (by rw [← hzo]; exact or8_rng z pw)
        clear h1 h2 h3 h4 hb hsz hys hi he8 hz hpw hzo hin he7 hin2 hpr
        go_upto_region 5 with fail
        refine region_vals_last (n := 13) [none, none, none, none, none, none, none, none, none, none, none, none, none, none, none, some 0, some 1, some 2, some 3, some 4, some 5, some 6, some 7, some 8, some 9, some 10, some 11, some 12, none] [[(0, none)], [(15, some 0)], [(16, some 1)], [(17, some 2)], [(5, none)], [(19, some 4)], [(18, some 3), (20, some 5)], [(21, some 6)], [(5, none)], [(23, some 8)], [(24, some 9)], [(22, some 7), (25, some 10)], [(18, some 3), (20, some 5)], [(27, some 12), (26, some 11)]] [some 15, some 16, some 17, some 18, some 19, some 20, some 21, some 22, some 23, some 24, some 25, some 26, some 27] [.pointer (some ⟨B, 0, none⟩), .pointer (some ⟨B, 0, none⟩), .pointer (some ⟨B, 0, none⟩), .slice (some ⟨C, 0, none⟩) n cap, .int .i64 (p0 : Int), .int .i64 (i : Int), .pointer (some ⟨C, i, none⟩), .int .u8 z, .int .i64 (p0 : Int), .int .i64 (e8 : Int), .int .u8 pw, .int .u8 zo, .pointer (some ⟨C, i, none⟩)] (fun w' => Hid (Kp Nb wr w')) (by kernel_rfl) (by kernel_rfl) (by kernel_rfl) (by kernel_rfl) ({ dst := none, op := Op.store 5 (Operand.tmp 27) (Operand.tmp 26), type := 0, pos := "bloom.go:65", after := #[{ on := 12, ground := Ground.data }, { on := 11, ground := Ground.data }, { on := 0, ground := Ground.phase }, { on := 1, ground := Ground.phase }, { on := 2, ground := Ground.phase }, { on := 3, ground := Ground.phase }, { on := 4, ground := Ground.phase }, { on := 5, ground := Ground.phase }, { on := 6, ground := Ground.phase }, { on := 7, ground := Ground.phase }, { on := 8, ground := Ground.phase }, { on := 9, ground := Ground.phase }, { on := 10, ground := Ground.phase }, { on := 11, ground := Ground.phase }], guard := none }) rfl rfl (by kernel_rfl) (by kernel_rfl) ?hS (?hstep : VFrom _ _ _ _ _ _ 0 13).start ?hend
        case hstep =>
          refine VFrom.cons (VStep.val _ rfl _ rfl (.pointer (some ⟨B, 0, none⟩)) rfl trivial (fun ev wq hS he hr => ?_)) ?_
          · have r0 : ev (.tmp 0) = .pointer (some ⟨B, 0, none⟩) := hr (0, none) (by simp); have hk := he.1; clear hr he
            go_simp
          refine VFrom.cons (VStep.val _ rfl _ rfl (.pointer (some ⟨B, 0, none⟩)) rfl trivial (fun ev wq hS he hr => ?_)) ?_
          · have r0 : ev (.tmp 15) = .pointer (some ⟨B, 0, none⟩) := hr (15, some 0) (by simp); have hk := he.1; clear hr he
            go_simp
          refine VFrom.cons (VStep.val _ rfl _ rfl (.pointer (some ⟨B, 0, none⟩)) rfl trivial (fun ev wq hS he hr => ?_)) ?_
          · have r0 : ev (.tmp 16) = .pointer (some ⟨B, 0, none⟩) := hr (16, some 1) (by simp); have hk := he.1; clear hr he
            go_simp
          refine VFrom.cons (VStep.val _ rfl _ rfl (.slice (some ⟨C, 0, none⟩) n cap) rfl trivial (fun ev wq hS he hr => ?_)) ?_
          · have r0 : ev (.tmp 17) = .pointer (some ⟨B, 0, none⟩) := hr (17, some 2) (by simp); have hk := he.1; clear hr he
            have c0 := (H1.out.kept hS.out (fun h => h)).cell 0
            go_simp
          refine VFrom.cons (VStep.val _ rfl _ rfl (.int .i64 (p0 : Int)) rfl trivial (fun ev wq hS he hr => ?_)) ?_
          · have r0 : ev (.tmp 5) = .int .i64 (p0 : Int) := hr (5, none) (by simp); have hk := he.1; clear hr he
            go_simp
          refine VFrom.cons (VStep.val _ rfl _ rfl (.int .i64 (i : Int)) rfl trivial (fun ev wq hS he hr => ?_)) ?_
          · have r0 : ev (.tmp 19) = .int .i64 (p0 : Int) := hr (19, some 4) (by simp); have hk := he.1; clear hr he
            have e1 := T1.out; have e2 := BD.out; have e3 := T3.out; have e4 := WI.out
            go_simp
          refine VFrom.cons (VStep.val _ rfl _ rfl (.pointer (some ⟨C, i, none⟩)) rfl trivial (fun ev wq hS he hr => ?_)) ?_
          · have r0 : ev (.tmp 18) = .slice (some ⟨C, 0, none⟩) n cap := hr (18, some 3) (by simp); have r1 : ev (.tmp 20) = .int .i64 (i : Int) := hr (20, some 5) (by simp); have hk := he.1; clear hr he
            have e1 := BD.out
            go_simp
          refine VFrom.cons (VStep.val _ rfl _ rfl (.int .u8 z) rfl trivial (fun ev wq hS he hr => ?_)) ?_
          · have r0 : ev (.tmp 21) = .pointer (some ⟨C, i, none⟩) := hr (21, some 6) (by simp); have hk := he.1; clear hr he
            have c0 := hS.out.cell CZ.out (fun h => h)
            go_simp
          refine VFrom.cons (VStep.val _ rfl _ rfl (.int .i64 (p0 : Int)) rfl trivial (fun ev wq hS he hr => ?_)) ?_
          · have r0 : ev (.tmp 5) = .int .i64 (p0 : Int) := hr (5, none) (by simp); have hk := he.1; clear hr he
            go_simp
          refine VFrom.cons (VStep.val _ rfl _ rfl (.int .i64 (e8 : Int)) rfl trivial (fun ev wq hS he hr => ?_)) ?_
          · have r0 : ev (.tmp 23) = .int .i64 (p0 : Int) := hr (23, some 8) (by simp); have hk := he.1; clear hr he
            have e1 := T2.out; have e2 := BD.out; have e3 := T4.out
            go_simp
          refine VFrom.cons (VStep.val _ rfl _ rfl (.int .u8 pw) rfl trivial (fun ev wq hS he hr => ?_)) ?_
          · have r0 : ev (.tmp 24) = .int .i64 (e8 : Int) := hr (24, some 9) (by simp); have hk := he.1; clear hr he
            have e1 := PW.out; have e2 := BD.out; have e3 := PW2.out; have e4 := PW3.out
            go_simp
          refine VFrom.cons (VStep.val _ rfl _ rfl (.int .u8 zo) rfl trivial (fun ev wq hS he hr => ?_)) ?_
          · have r0 : ev (.tmp 22) = .int .u8 z := hr (22, some 7) (by simp); have r1 : ev (.tmp 25) = .int .u8 pw := hr (25, some 10) (by simp); have hk := he.1; clear hr he
            have e1 := ZO.out
            go_simp
          refine VFrom.cons (VStep.val _ rfl _ rfl (.pointer (some ⟨C, i, none⟩)) rfl trivial (fun ev wq hS he hr => ?_)) ?_
          · have r0 : ev (.tmp 18) = .slice (some ⟨C, 0, none⟩) n cap := hr (18, some 3) (by simp); have r1 : ev (.tmp 20) = .int .i64 (i : Int) := hr (20, some 5) (by simp); have hk := he.1; clear hr he
            have e1 := BD.out
            go_simp
          exact VFrom.nil
        case hS => exact hid (Kp.refl Nb wr).drew
        case hend =>
          intro af wy haf kh
          have HE := H2.out.kept kh.out (fun h => h)
          have hil : i < (ys.map (Value.int .u8) ++ rest).length := by rw [List.length_append, List.length_map, HYL.out]; have := BD.out; omega
          have HA3 : Hid (FlAt (wy.setCell ⟨C, i, none⟩ (.int .u8 zo)) B C (addK zs m s (0 + 1))) := hid (by
            rw [HN1.out]
            refine FlAt.set (HFk.out.kept kh.out (fun h => h) (fun h => h)) i zo (by rw [HYL.out]; exact BD.out.1) HZO.out)
          have HK3 := hid ((HK.out.trans kh.out (fun _ _ h => h.elim)).set i (.int .u8 zo))
          refine wp_store_at 5 (.tmp 27) (.tmp 26) rfl (p := ⟨C, i, none⟩) (v := .int .u8 zo) (by rw [haf.out]; kernel_rfl) (by rw [haf.out]; kernel_rfl) (store_u8 HE hil zo) ?_
          rw [haf.out]
          clear haf kh HE hil
          simp only [putAll, List.zip_cons_cons, List.zip_nil_right, List.foldl_cons, List.foldl_nil, Act.put, List.setIfInBounds_toArray, List.set_cons_zero, List.set_cons_succ]
          go_wp2
          exact ⟨⟨0 + 1, by omega, rfl, HA3, HK3⟩, by simp [intOf]⟩
      · have hb := HPB.out
        have hsz := HSZ.out
        have hix := idx_arr4_1 p0 p1 p2 p3
        obtain ⟨ys, hys⟩ : ∃ ys, addK zs m s 1 = ys := ⟨_, rfl⟩
        have HY := hid hys
        have HFk : Hid (FlAt wr B C ys) := hid (by rw [← hys]; exact HA.out)
        have HYL : Hid (ys.length = n) := hid (by rw [← hys, addK_length]; exact HNZ.out)
        obtain ⟨i, hi⟩ : ∃ i, p1 / 8 = i := ⟨_, rfl⟩
        obtain ⟨e8, he8⟩ : ∃ i, p1 % 8 = i := ⟨_, rfl⟩
        have T1 : Hid ((p1 : Int).tdiv 8 = (i : Int)) := hid (by rw [Int.tdiv_eq_ediv_of_nonneg (by omega)]; omega)
        have T2 : Hid ((p1 : Int).tmod 8 = (e8 : Int)) := hid (by rw [Int.tmod_eq_emod_of_nonneg (by omega)]; omega)
        have T3 : Hid ((p1 : Int) / 8 = (i : Int)) := hid (by omega)
        have T4 : Hid ((p1 : Int) % 8 = (e8 : Int)) := hid (by omega)
        have hin : i < n := by omega
        have he7 : e8 < 8 := by omega
        obtain ⟨cap, rest, h1, h2, h3, h4⟩ := HFk.out.at'
        rw [HYL.out] at h1 h3
        have H1 := hid h1
        have H2 := hid h2
        obtain ⟨z, hz⟩ : ∃ z, ys[i]?.getD 0 = z := ⟨_, rfl⟩
        have CZ : Hid (wr.cell? ⟨C, i, none⟩ = some (.int .u8 z)) := hid (by
          rw [h2.cell i, List.getElem?_append_left (by rw [List.length_map, HYL.out]; exact hin), List.getElem?_map, List.getElem?_eq_getElem (by rw [HYL.out]; exact hin), Option.map_some]
          rw [List.getElem?_eq_getElem (by rw [HYL.out]; exact hin), Option.getD_some] at hz
          rw [hz])
        unfold maxLen at h4
        have hin2 : i ≤ 1024 := by omega
        obtain ⟨pw, hpw⟩ : ∃ x : Int, (2 : Int) ^ e8 = x := ⟨_, rfl⟩
        have hpr := pow8_rng e8 he7
        rw [hpw] at hpr
        have PW := hid hpw
        have PW2 : Hid (IntKind.u8.wrap pw = pw) := hid (by rw [IntKind.wrap_u8]; omega)
        have PW3 : Hid (IntKind.u8.wrap (2 ^ e8) = pw) := hid (by rw [hpw]; exact PW2.out)
        obtain ⟨zo, hzo⟩ : ∃ x, bits .or .u8 z pw = x := ⟨_, rfl⟩
        have ZO := hid hzo
        have WI : Hid (IntKind.i64.wrap (i : Int) = (i : Int)) := hid (by rw [IntKind.wrap_i64]; omega)
        have BD := hid (show i < n ∧ n ≤ cap ∧ e8 < 8 ∧ i ≤ 1024 from ⟨hin, h3, he7, hin2⟩)
        have HN1 : Hid (addK zs m s (1 + 1) = ys.set i zo) := hid (by rw [addK_succ, hys, HP.out.2.1]; unfold setB; rw [hi, he8, hz, hpw, hzo])
        have HZO : Hid (0 ≤ zo ∧ zo < 256) := hid (by rw [← hzo]; exact or8_rng z pw)
        clear h1 h2 h3 h4 hb hsz hys hi he8 hz hpw hzo hin he7 hin2 hpr
        go_upto_region 5 with fail
        refine region_vals_last (n := 13) [none, none, none, none, none, none, none, none, none, none, none, none, none, none, none, some 0, some 1, some 2, some 3, some 4, some 5, some 6, some 7, some 8, some 9, some 10, some 11, some 12, none] [[(0, none)], [(15, some 0)], [(16, some 1)], [(17, some 2)], [(5, none)], [(19, some 4)], [(18, some 3), (20, some 5)], [(21, some 6)], [(5, none)], [(23, some 8)], [(24, some 9)], [(22, some 7), (25, some 10)], [(18, some 3), (20, some 5)], [(27, some 12), (26, some 11)]] [some 15, some 16, some 17, some 18, some 19, some 20, some 21, some 22, some 23, some 24, some 25, some 26, some 27] [.pointer (some ⟨B, 0, none⟩), .pointer (some ⟨B, 0, none⟩), .pointer (some ⟨B, 0, none⟩), .slice (some ⟨C, 0, none⟩) n cap, .int .i64 (p1 : Int), .int .i64 (i : Int), .pointer (some ⟨C, i, none⟩), .int .u8 z, .int .i64 (p1 : Int), .int .i64 (e8 : Int), .int .u8 pw, .int .u8 zo, .pointer (some ⟨C, i, none⟩)] (fun w' => Hid (Kp Nb wr w')) (by kernel_rfl) (by kernel_rfl) (by kernel_rfl) (by kernel_rfl) ({ dst := none, op := Op.store 5 (Operand.tmp 27) (Operand.tmp 26), type := 0, pos := "bloom.go:65", after := #[{ on := 12, ground := Ground.data }, { on := 11, ground := Ground.data }, { on := 0, ground := Ground.phase }, { on := 1, ground := Ground.phase }, { on := 2, ground := Ground.phase }, { on := 3, ground := Ground.phase }, { on := 4, ground := Ground.phase }, { on := 5, ground := Ground.phase }, { on := 6, ground := Ground.phase }, { on := 7, ground := Ground.phase }, { on := 8, ground := Ground.phase }, { on := 9, ground := Ground.phase }, { on := 10, ground := Ground.phase }, { on := 11, ground := Ground.phase }], guard := none }) rfl rfl (by kernel_rfl) (by kernel_rfl) ?hS (?hstep : VFrom _ _ _ _ _ _ 0 13).start ?hend
        case hstep =>
          refine VFrom.cons (VStep.val _ rfl _ rfl (.pointer (some ⟨B, 0, none⟩)) rfl trivial (fun ev wq hS he hr => ?_)) ?_
          · have r0 : ev (.tmp 0) = .pointer (some ⟨B, 0, none⟩) := hr (0, none) (by simp); have hk := he.1; clear hr he
            go_simp
          refine VFrom.cons (VStep.val _ rfl _ rfl (.pointer (some ⟨B, 0, none⟩)) rfl trivial (fun ev wq hS he hr => ?_)) ?_
          · have r0 : ev (.tmp 15) = .pointer (some ⟨B, 0, none⟩) := hr (15, some 0) (by simp); have hk := he.1; clear hr he
            go_simp
          refine VFrom.cons (VStep.val _ rfl _ rfl (.pointer (some ⟨B, 0, none⟩)) rfl trivial (fun ev wq hS he hr => ?_)) ?_
          · have r0 : ev (.tmp 16) = .pointer (some ⟨B, 0, none⟩) := hr (16, some 1) (by simp); have hk := he.1; clear hr he
            go_simp
          refine VFrom.cons (VStep.val _ rfl _ rfl (.slice (some ⟨C, 0, none⟩) n cap) rfl trivial (fun ev wq hS he hr => ?_)) ?_
          · have r0 : ev (.tmp 17) = .pointer (some ⟨B, 0, none⟩) := hr (17, some 2) (by simp); have hk := he.1; clear hr he
            have c0 := (H1.out.kept hS.out (fun h => h)).cell 0
            go_simp
          refine VFrom.cons (VStep.val _ rfl _ rfl (.int .i64 (p1 : Int)) rfl trivial (fun ev wq hS he hr => ?_)) ?_
          · have r0 : ev (.tmp 5) = .int .i64 (p1 : Int) := hr (5, none) (by simp); have hk := he.1; clear hr he
            go_simp
          refine VFrom.cons (VStep.val _ rfl _ rfl (.int .i64 (i : Int)) rfl trivial (fun ev wq hS he hr => ?_)) ?_
          · have r0 : ev (.tmp 19) = .int .i64 (p1 : Int) := hr (19, some 4) (by simp); have hk := he.1; clear hr he
            have e1 := T1.out; have e2 := BD.out; have e3 := T3.out; have e4 := WI.out
            go_simp
          refine VFrom.cons (VStep.val _ rfl _ rfl (.pointer (some ⟨C, i, none⟩)) rfl trivial (fun ev wq hS he hr => ?_)) ?_
          · have r0 : ev (.tmp 18) = .slice (some ⟨C, 0, none⟩) n cap := hr (18, some 3) (by simp); have r1 : ev (.tmp 20) = .int .i64 (i : Int) := hr (20, some 5) (by simp); have hk := he.1; clear hr he
            have e1 := BD.out
            go_simp
          refine VFrom.cons (VStep.val _ rfl _ rfl (.int .u8 z) rfl trivial (fun ev wq hS he hr => ?_)) ?_
          · have r0 : ev (.tmp 21) = .pointer (some ⟨C, i, none⟩) := hr (21, some 6) (by simp); have hk := he.1; clear hr he
            have c0 := hS.out.cell CZ.out (fun h => h)
            go_simp
          refine VFrom.cons (VStep.val _ rfl _ rfl (.int .i64 (p1 : Int)) rfl trivial (fun ev wq hS he hr => ?_)) ?_
          · have r0 : ev (.tmp 5) = .int .i64 (p1 : Int) := hr (5, none) (by simp); have hk := he.1; clear hr he
            go_simp
          refine VFrom.cons (VStep.val _ rfl _ rfl (.int .i64 (e8 : Int)) rfl trivial (fun ev wq hS he hr => ?_)) ?_
          · have r0 : ev (.tmp 23) = .int .i64 (p1 : Int) := hr (23, some 8) (by simp); have hk := he.1; clear hr he
            have e1 := T2.out; have e2 := BD.out; have e3 := T4.out
            go_simp
          refine VFrom.cons (VStep.val _ rfl _ rfl (.int .u8 pw) rfl trivial (fun ev wq hS he hr => ?_)) ?_
          · have r0 : ev (.tmp 24) = .int .i64 (e8 : Int) := hr (24, some 9) (by simp); have hk := he.1; clear hr he
            have e1 := PW.out; have e2 := BD.out; have e3 := PW2.out; have e4 := PW3.out
            go_simp
          refine VFrom.cons (VStep.val _ rfl _ rfl (.int .u8 zo) rfl trivial (fun ev wq hS he hr => ?_)) ?_
          · have r0 : ev (.tmp 22) = .int .u8 z := hr (22, some 7) (by simp); have r1 : ev (.tmp 25) = .int .u8 pw := hr (25, some 10) (by simp); have hk := he.1; clear hr he
            have e1 := ZO.out
            go_simp
          refine VFrom.cons (VStep.val _ rfl _ rfl (.pointer (some ⟨C, i, none⟩)) rfl trivial (fun ev wq hS he hr => ?_)) ?_
          · have r0 : ev (.tmp 18) = .slice (some ⟨C, 0, none⟩) n cap := hr (18, some 3) (by simp); have r1 : ev (.tmp 20) = .int .i64 (i : Int) := hr (20, some 5) (by simp); have hk := he.1; clear hr he
            have e1 := BD.out
            go_simp
          exact VFrom.nil
        case hS => exact hid (Kp.refl Nb wr).drew
        case hend =>
          intro af wy haf kh
          have HE := H2.out.kept kh.out (fun h => h)
          have hil : i < (ys.map (Value.int .u8) ++ rest).length := by rw [List.length_append, List.length_map, HYL.out]; have := BD.out; omega
          have HA3 : Hid (FlAt (wy.setCell ⟨C, i, none⟩ (.int .u8 zo)) B C (addK zs m s (1 + 1))) := hid (by
            rw [HN1.out]
            refine FlAt.set (HFk.out.kept kh.out (fun h => h) (fun h => h)) i zo (by rw [HYL.out]; exact BD.out.1) HZO.out)
          have HK3 := hid ((HK.out.trans kh.out (fun _ _ h => h.elim)).set i (.int .u8 zo))
          refine wp_store_at 5 (.tmp 27) (.tmp 26) rfl (p := ⟨C, i, none⟩) (v := .int .u8 zo) (by rw [haf.out]; kernel_rfl) (by rw [haf.out]; kernel_rfl) (store_u8 HE hil zo) ?_
          rw [haf.out]
          clear haf kh HE hil
          simp only [putAll, List.zip_cons_cons, List.zip_nil_right, List.foldl_cons, List.foldl_nil, Act.put, List.setIfInBounds_toArray, List.set_cons_zero, List.set_cons_succ]
          go_wp2
          exact ⟨⟨1 + 1, by omega, rfl, HA3, HK3⟩, by simp [intOf]⟩
      · have hb := HPB.out
        have hsz := HSZ.out
        have hix := idx_arr4_2 p0 p1 p2 p3
        obtain ⟨ys, hys⟩ : ∃ ys, addK zs m s 2 = ys := ⟨_, rfl⟩
        have HY := hid hys
        have HFk : Hid (FlAt wr B C ys) := hid (by rw [← hys]; exact HA.out)
        have HYL : Hid (ys.length = n) := hid (by rw [← hys, addK_length]; exact HNZ.out)
        obtain ⟨i, hi⟩ : ∃ i, p2 / 8 = i := ⟨_, rfl⟩
        obtain ⟨e8, he8⟩ : ∃ i, p2 % 8 = i := ⟨_, rfl⟩
        have T1 : Hid ((p2 : Int).tdiv 8 = (i : Int)) := hid (by rw [Int.tdiv_eq_ediv_of_nonneg (by omega)]; omega)
        have T2 : Hid ((p2 : Int).tmod 8 = (e8 : Int)) := hid (by rw [Int.tmod_eq_emod_of_nonneg (by omega)]; omega)
        have T3 : Hid ((p2 : Int) / 8 = (i : Int)) := hid (by omega)
        have T4 : Hid ((p2 : Int) % 8 = (e8 : Int)) := hid (by omega)
        have hin : i < n := by omega
        have he7 : e8 < 8 := by omega
        obtain ⟨cap, rest, h1, h2, h3, h4⟩ := HFk.out.at'
        rw [HYL.out] at h1 h3
        have H1 := hid h1
        have H2 := hid h2
        obtain ⟨z, hz⟩ : ∃ z, ys[i]?.getD 0 = z := ⟨_, rfl⟩
        have CZ : Hid (wr.cell? ⟨C, i, none⟩ = some (.int .u8 z)) := hid (by
          rw [h2.cell i, List.getElem?_append_left (by rw [List.length_map, HYL.out]; exact hin), List.getElem?_map, List.getElem?_eq_getElem (by rw [HYL.out]; exact hin), Option.map_some]
          rw [List.getElem?_eq_getElem (by rw [HYL.out]; exact hin), Option.getD_some] at hz
          rw [hz])
        unfold maxLen at h4
        have hin2 : i ≤ 1024 := by omega
        obtain ⟨pw, hpw⟩ : ∃ x : Int, (2 : Int) ^ e8 = x := ⟨_, rfl⟩
        have hpr := pow8_rng e8 he7
        rw [hpw] at hpr
        have PW := hid hpw
        have PW2 : Hid (IntKind.u8.wrap pw = pw) := hid (by rw [IntKind.wrap_u8]; omega)
        have PW3 : Hid (IntKind.u8.wrap (2 ^ e8) = pw) := hid (by rw [hpw]; exact PW2.out)
        obtain ⟨zo, hzo⟩ : ∃ x, bits .or .u8 z pw = x := ⟨_, rfl⟩
        have ZO := hid hzo
        have WI : Hid (IntKind.i64.wrap (i : Int) = (i : Int)) := hid (by rw [IntKind.wrap_i64]; omega)
        have BD := hid (show i < n ∧ n ≤ cap ∧ e8 < 8 ∧ i ≤ 1024 from ⟨hin, h3, he7, hin2⟩)
        have HN1 : Hid (addK zs m s (2 + 1) = ys.set i zo) := hid (by rw [addK_succ, hys, HP.out.2.2.1]; unfold setB; rw [hi, he8, hz, hpw, hzo])
        have HZO : Hid (0 ≤ zo ∧ zo < 256) := hid (by rw [← hzo]; exact or8_rng z pw)
        clear h1 h2 h3 h4 hb hsz hys hi he8 hz hpw hzo hin he7 hin2 hpr
        go_upto_region 5 with fail
        refine region_vals_last (n := 13) [none, none, none, none, none, none, none, none, none, none, none, none, none, none, none, some 0, some 1, some 2, some 3, some 4, some 5, some 6, some 7, some 8, some 9, some 10, some 11, some 12, none] [[(0, none)], [(15, some 0)], [(16, some 1)], [(17, some 2)], [(5, none)], [(19, some 4)], [(18, some 3), (20, some 5)], [(21, some 6)], [(5, none)], [(23, some 8)], [(24, some 9)], [(22, some 7), (25, some 10)], [(18, some 3), (20, some 5)], [(27, some 12), (26, some 11)]] [some 15, some 16, some 17, some 18, some 19, some 20, some 21, some 22, some 23, some 24, some 25, some 26, some 27] [.pointer (some ⟨B, 0, none⟩), .pointer (some ⟨B, 0, none⟩), .pointer (some ⟨B, 0, none⟩), .slice (some ⟨C, 0, none⟩) n cap, .int .i64 (p2 : Int), .int .i64 (i : Int), .pointer (some ⟨C, i, none⟩), .int .u8 z, .int .i64 (p2 : Int), .int .i64 (e8 : Int), .int .u8 pw, .int .u8 zo, .pointer (some ⟨C, i, none⟩)] (fun w' => Hid (Kp Nb wr w')) (by kernel_rfl) (by kernel_rfl) (by kernel_rfl) (by kernel_rfl) ({ dst := none, op := Op.store 5 (Operand.tmp 27) (Operand.tmp 26), type := 0, pos := "bloom.go:65", after := #[{ on := 12, ground := Ground.data }, { on := 11, ground := Ground.data }, { on := 0, ground := Ground.phase }, { on := 1, ground := Ground.phase }, { on := 2, ground := Ground.phase }, { on := 3, ground := Ground.phase }, { on := 4, ground := Ground.phase }, { on := 5, ground := Ground.phase }, { on := 6, ground := Ground.phase }, { on := 7, ground := Ground.phase }, { on := 8, ground := Ground.phase }, { on := 9, ground := Ground.phase }, { on := 10, ground := Ground.phase }, { on := 11, ground := Ground.phase }], guard := none }) rfl rfl (by kernel_rfl) (by kernel_rfl) ?hS (?hstep : VFrom _ _ _ _ _ _ 0 13).start ?hend
        case hstep =>
          refine VFrom.cons (VStep.val _ rfl _ rfl (.pointer (some ⟨B, 0, none⟩)) rfl trivial (fun ev wq hS he hr => ?_)) ?_
          · have r0 : ev (.tmp 0) = .pointer (some ⟨B, 0, none⟩) := hr (0, none) (by simp); have hk := he.1; clear hr he
            go_simp
          refine VFrom.cons (VStep.val _ rfl _ rfl (.pointer (some ⟨B, 0, none⟩)) rfl trivial (fun ev wq hS he hr => ?_)) ?_
          · have r0 : ev (.tmp 15) = .pointer (some ⟨B, 0, none⟩) := hr (15, some 0) (by simp); have hk := he.1; clear hr he
            go_simp
          refine VFrom.cons (VStep.val _ rfl _ rfl (.pointer (some ⟨B, 0, none⟩)) rfl trivial (fun ev wq hS he hr => ?_)) ?_
          · have r0 : ev (.tmp 16) = .pointer (some ⟨B, 0, none⟩) := hr (16, some 1) (by simp); have hk := he.1; clear hr he
            go_simp
          refine VFrom.cons (VStep.val _ rfl _ rfl (.slice (some ⟨C, 0, none⟩) n cap) rfl trivial (fun ev wq hS he hr => ?_)) ?_
          · have r0 : ev (.tmp 17) = .pointer (some ⟨B, 0, none⟩) := hr (17, some 2) (by simp); have hk := he.1; clear hr he
            have c0 := (H1.out.kept hS.out (fun h => h)).cell 0
            go_simp
          refine VFrom.cons (VStep.val _ rfl _ rfl (.int .i64 (p2 : Int)) rfl trivial (fun ev wq hS he hr => ?_)) ?_
          · have r0 : ev (.tmp 5) = .int .i64 (p2 : Int) := hr (5, none) (by simp); have hk := he.1; clear hr he
            go_simp
          refine VFrom.cons (VStep.val _ rfl _ rfl (.int .i64 (i : Int)) rfl trivial (fun ev wq hS he hr => ?_)) ?_
          · have r0 : ev (.tmp 19) = .int .i64 (p2 : Int) := hr (19, some 4) (by simp); have hk := he.1; clear hr he
            have e1 := T1.out; have e2 := BD.out; have e3 := T3.out; have e4 := WI.out
            go_simp
          refine VFrom.cons (VStep.val _ rfl _ rfl (.pointer (some ⟨C, i, none⟩)) rfl trivial (fun ev wq hS he hr => ?_)) ?_
          · have r0 : ev (.tmp 18) = .slice (some ⟨C, 0, none⟩) n cap := hr (18, some 3) (by simp); have r1 : ev (.tmp 20) = .int .i64 (i : Int) := hr (20, some 5) (by simp); have hk := he.1; clear hr he
            have e1 := BD.out
            go_simp
          refine VFrom.cons (VStep.val _ rfl _ rfl (.int .u8 z) rfl trivial (fun ev wq hS he hr => ?_)) ?_
          · have r0 : ev (.tmp 21) = .pointer (some ⟨C, i, none⟩) := hr (21, some 6) (by simp); have hk := he.1; clear hr he
            have c0 := hS.out.cell CZ.out (fun h => h)
            go_simp
          refine VFrom.cons (VStep.val _ rfl _ rfl (.int .i64 (p2 : Int)) rfl trivial (fun ev wq hS he hr => ?_)) ?_
          · have r0 : ev (.tmp 5) = .int .i64 (p2 : Int) := hr (5, none) (by simp); have hk := he.1; clear hr he
            go_simp
          refine VFrom.cons (VStep.val _ rfl _ rfl (.int .i64 (e8 : Int)) rfl trivial (fun ev wq hS he hr => ?_)) ?_
          · have r0 : ev (.tmp 23) = .int .i64 (p2 : Int) := hr (23, some 8) (by simp); have hk := he.1; clear hr he
            have e1 := T2.out; have e2 := BD.out; have e3 := T4.out
            go_simp
          refine VFrom.cons (VStep.val _ rfl _ rfl (.int .u8 pw) rfl trivial (fun ev wq hS he hr => ?_)) ?_
          · have r0 : ev (.tmp 24) = .int .i64 (e8 : Int) := hr (24, some 9) (by simp); have hk := he.1; clear hr he
            have e1 := PW.out; have e2 := BD.out; have e3 := PW2.out; have e4 := PW3.out
            go_simp
          refine VFrom.cons (VStep.val _ rfl _ rfl (.int .u8 zo) rfl trivial (fun ev wq hS he hr => ?_)) ?_
          · have r0 : ev (.tmp 22) = .int .u8 z := hr (22, some 7) (by simp); have r1 : ev (.tmp 25) = .int .u8 pw := hr (25, some 10) (by simp); have hk := he.1; clear hr he
            have e1 := ZO.out
            go_simp
          refine VFrom.cons (VStep.val _ rfl _ rfl (.pointer (some ⟨C, i, none⟩)) rfl trivial (fun ev wq hS he hr => ?_)) ?_
          · have r0 : ev (.tmp 18) = .slice (some ⟨C, 0, none⟩) n cap := hr (18, some 3) (by simp); have r1 : ev (.tmp 20) = .int .i64 (i : Int) := hr (20, some 5) (by simp); have hk := he.1; clear hr he
            have e1 := BD.out
            go_simp
          exact VFrom.nil
        case hS => exact hid (Kp.refl Nb wr).drew
        case hend =>
          intro af wy haf kh
          have HE := H2.out.kept kh.out (fun h => h)
          have hil : i < (ys.map (Value.int .u8) ++ rest).length := by rw [List.length_append, List.length_map, HYL.out]; have := BD.out; omega
          have HA3 : Hid (FlAt (wy.setCell ⟨C, i, none⟩ (.int .u8 zo)) B C (addK zs m s (2 + 1))) := hid (by
            rw [HN1.out]
            refine FlAt.set (HFk.out.kept kh.out (fun h => h) (fun h => h)) i zo (by rw [HYL.out]; exact BD.out.1) HZO.out)
          have HK3 := hid ((HK.out.trans kh.out (fun _ _ h => h.elim)).set i (.int .u8 zo))
          refine wp_store_at 5 (.tmp 27) (.tmp 26) rfl (p := ⟨C, i, none⟩) (v := .int .u8 zo) (by rw [haf.out]; kernel_rfl) (by rw [haf.out]; kernel_rfl) (store_u8 HE hil zo) ?_
          rw [haf.out]
          clear haf kh HE hil
          simp only [putAll, List.zip_cons_cons, List.zip_nil_right, List.foldl_cons, List.foldl_nil, Act.put, List.setIfInBounds_toArray, List.set_cons_zero, List.set_cons_succ]
          go_wp2
          exact ⟨⟨2 + 1, by omega, rfl, HA3, HK3⟩, by simp [intOf]⟩
      · have hb := HPB.out
        have hsz := HSZ.out
        have hix := idx_arr4_3 p0 p1 p2 p3
        obtain ⟨ys, hys⟩ : ∃ ys, addK zs m s 3 = ys := ⟨_, rfl⟩
        have HY := hid hys
        have HFk : Hid (FlAt wr B C ys) := hid (by rw [← hys]; exact HA.out)
        have HYL : Hid (ys.length = n) := hid (by rw [← hys, addK_length]; exact HNZ.out)
        obtain ⟨i, hi⟩ : ∃ i, p3 / 8 = i := ⟨_, rfl⟩
        obtain ⟨e8, he8⟩ : ∃ i, p3 % 8 = i := ⟨_, rfl⟩
        have T1 : Hid ((p3 : Int).tdiv 8 = (i : Int)) := hid (by rw [Int.tdiv_eq_ediv_of_nonneg (by omega)]; omega)
        have T2 : Hid ((p3 : Int).tmod 8 = (e8 : Int)) := hid (by rw [Int.tmod_eq_emod_of_nonneg (by omega)]; omega)
        have T3 : Hid ((p3 : Int) / 8 = (i : Int)) := hid (by omega)
        have T4 : Hid ((p3 : Int) % 8 = (e8 : Int)) := hid (by omega)
        have hin : i < n := by omega
        have he7 : e8 < 8 := by omega
        obtain ⟨cap, rest, h1, h2, h3, h4⟩ := HFk.out.at'
        rw [HYL.out] at h1 h3
        have H1 := hid h1
        have H2 := hid h2
        obtain ⟨z, hz⟩ : ∃ z, ys[i]?.getD 0 = z := ⟨_, rfl⟩
        have CZ : Hid (wr.cell? ⟨C, i, none⟩ = some (.int .u8 z)) := hid (by
          rw [h2.cell i, List.getElem?_append_left (by rw [List.length_map, HYL.out]; exact hin), List.getElem?_map, List.getElem?_eq_getElem (by rw [HYL.out]; exact hin), Option.map_some]
          rw [List.getElem?_eq_getElem (by rw [HYL.out]; exact hin), Option.getD_some] at hz
          rw [hz])
        unfold maxLen at h4
        have hin2 : i ≤ 1024 := by omega
        obtain ⟨pw, hpw⟩ : ∃ x : Int, (2 : Int) ^ e8 = x := ⟨_, rfl⟩
        have hpr := pow8_rng e8 he7
        rw [hpw] at hpr
        have PW := hid hpw
        have PW2 : Hid (IntKind.u8.wrap pw = pw) := hid (by rw [IntKind.wrap_u8]; omega)
        have PW3 : Hid (IntKind.u8.wrap (2 ^ e8) = pw) := hid (by rw [hpw]; exact PW2.out)
        obtain ⟨zo, hzo⟩ : ∃ x, bits .or .u8 z pw = x := ⟨_, rfl⟩
        have ZO := hid hzo
        have WI : Hid (IntKind.i64.wrap (i : Int) = (i : Int)) := hid (by rw [IntKind.wrap_i64]; omega)
        have BD := hid (show i < n ∧ n ≤ cap ∧ e8 < 8 ∧ i ≤ 1024 from ⟨hin, h3, he7, hin2⟩)
        have HN1 : Hid (addK zs m s (3 + 1) = ys.set i zo) := hid (by rw [addK_succ, hys, HP.out.2.2.2]; unfold setB; rw [hi, he8, hz, hpw, hzo])
        have HZO : Hid (0 ≤ zo ∧ zo < 256) := hid (by rw [← hzo]; exact or8_rng z pw)
        clear h1 h2 h3 h4 hb hsz hys hi he8 hz hpw hzo hin he7 hin2 hpr
        go_upto_region 5 with fail
        refine region_vals_last (n := 13) [none, none, none, none, none, none, none, none, none, none, none, none, none, none, none, some 0, some 1, some 2, some 3, some 4, some 5, some 6, some 7, some 8, some 9, some 10, some 11, some 12, none] [[(0, none)], [(15, some 0)], [(16, some 1)], [(17, some 2)], [(5, none)], [(19, some 4)], [(18, some 3), (20, some 5)], [(21, some 6)], [(5, none)], [(23, some 8)], [(24, some 9)], [(22, some 7), (25, some 10)], [(18, some 3), (20, some 5)], [(27, some 12), (26, some 11)]] [some 15, some 16, some 17, some 18, some 19, some 20, some 21, some 22, some 23, some 24, some 25, some 26, some 27] [.pointer (some ⟨B, 0, none⟩), .pointer (some ⟨B, 0, none⟩), .pointer (some ⟨B, 0, none⟩), .slice (some ⟨C, 0, none⟩) n cap, .int .i64 (p3 : Int), .int .i64 (i : Int), .pointer (some ⟨C, i, none⟩), .int .u8 z, .int .i64 (p3 : Int), .int .i64 (e8 : Int), .int .u8 pw, .int .u8 zo, .pointer (some ⟨C, i, none⟩)] (fun w' => Hid (Kp Nb wr w')) (by kernel_rfl) (by kernel_rfl) (by kernel_rfl) (by kernel_rfl) ({ dst := none, op := Op.store 5 (Operand.tmp 27) (Operand.tmp 26), type := 0, pos := "bloom.go:65", after := #[{ on := 12, ground := Ground.data }, { on := 11, ground := Ground.data }, { on := 0, ground := Ground.phase }, { on := 1, ground := Ground.phase }, { on := 2, ground := Ground.phase }, { on := 3, ground := Ground.phase }, { on := 4, ground := Ground.phase }, { on := 5, ground := Ground.phase }, { on := 6, ground := Ground.phase }, { on := 7, ground := Ground.phase }, { on := 8, ground := Ground.phase }, { on := 9, ground := Ground.phase }, { on := 10, ground := Ground.phase }, { on := 11, ground := Ground.phase }], guard := none }) rfl rfl (by kernel_rfl) (by kernel_rfl) ?hS (?hstep : VFrom _ _ _ _ _ _ 0 13).start ?hend
        case hstep =>
          refine VFrom.cons (VStep.val _ rfl _ rfl (.pointer (some ⟨B, 0, none⟩)) rfl trivial (fun ev wq hS he hr => ?_)) ?_
          · have r0 : ev (.tmp 0) = .pointer (some ⟨B, 0, none⟩) := hr (0, none) (by simp); have hk := he.1; clear hr he
            go_simp
          refine VFrom.cons (VStep.val _ rfl _ rfl (.pointer (some ⟨B, 0, none⟩)) rfl trivial (fun ev wq hS he hr => ?_)) ?_
          · have r0 : ev (.tmp 15) = .pointer (some ⟨B, 0, none⟩) := hr (15, some 0) (by simp); have hk := he.1; clear hr he
            go_simp
          refine VFrom.cons (VStep.val _ rfl _ rfl (.pointer (some ⟨B, 0, none⟩)) rfl trivial (fun ev wq hS he hr => ?_)) ?_
          · have r0 : ev (.tmp 16) = .pointer (some ⟨B, 0, none⟩) := hr (16, some 1) (by simp); have hk := he.1; clear hr he
            go_simp
          refine VFrom.cons (VStep.val _ rfl _ rfl (.slice (some ⟨C, 0, none⟩) n cap) rfl trivial (fun ev wq hS he hr => ?_)) ?_
          · have r0 : ev (.tmp 17) = .pointer (some ⟨B, 0, none⟩) := hr (17, some 2) (by simp); have hk := he.1; clear hr he
            have c0 := (H1.out.kept hS.out (fun h => h)).cell 0
            go_simp
          refine VFrom.cons (VStep.val _ rfl _ rfl (.int .i64 (p3 : Int)) rfl trivial (fun ev wq hS he hr => ?_)) ?_
          · have r0 : ev (.tmp 5) = .int .i64 (p3 : Int) := hr (5, none) (by simp); have hk := he.1; clear hr he
            go_simp
          refine VFrom.cons (VStep.val _ rfl _ rfl (.int .i64 (i : Int)) rfl trivial (fun ev wq hS he hr => ?_)) ?_
          · have r0 : ev (.tmp 19) = .int .i64 (p3 : Int) := hr (19, some 4) (by simp); have hk := he.1; clear hr he
            have e1 := T1.out; have e2 := BD.out; have e3 := T3.out; have e4 := WI.out
            go_simp
          refine VFrom.cons (VStep.val _ rfl _ rfl (.pointer (some ⟨C, i, none⟩)) rfl trivial (fun ev wq hS he hr => ?_)) ?_
          · have r0 : ev (.tmp 18) = .slice (some ⟨C, 0, none⟩) n cap := hr (18, some 3) (by simp); have r1 : ev (.tmp 20) = .int .i64 (i : Int) := hr (20, some 5) (by simp); have hk := he.1; clear hr he
            have e1 := BD.out
            go_simp
          refine VFrom.cons (VStep.val _ rfl _ rfl (.int .u8 z) rfl trivial (fun ev wq hS he hr => ?_)) ?_
          · have r0 : ev (.tmp 21) = .pointer (some ⟨C, i, none⟩) := hr (21, some 6) (by simp); have hk := he.1; clear hr he
            have c0 := hS.out.cell CZ.out (fun h => h)
            go_simp
          refine VFrom.cons (VStep.val _ rfl _ rfl (.int .i64 (p3 : Int)) rfl trivial (fun ev wq hS he hr => ?_)) ?_
          · have r0 : ev (.tmp 5) = .int .i64 (p3 : Int) := hr (5, none) (by simp); have hk := he.1; clear hr he
            go_simp
          refine VFrom.cons (VStep.val _ rfl _ rfl (.int .i64 (e8 : Int)) rfl trivial (fun ev wq hS he hr => ?_)) ?_
          · have r0 : ev (.tmp 23) = .int .i64 (p3 : Int) := hr (23, some 8) (by simp); have hk := he.1; clear hr he
            have e1 := T2.out; have e2 := BD.out; have e3 := T4.out
            go_simp
          refine VFrom.cons (VStep.val _ rfl _ rfl (.int .u8 pw) rfl trivial (fun ev wq hS he hr => ?_)) ?_
          · have r0 : ev (.tmp 24) = .int .i64 (e8 : Int) := hr (24, some 9) (by simp); have hk := he.1; clear hr he
            have e1 := PW.out; have e2 := BD.out; have e3 := PW2.out; have e4 := PW3.out
            go_simp
          refine VFrom.cons (VStep.val _ rfl _ rfl (.int .u8 zo) rfl trivial (fun ev wq hS he hr => ?_)) ?_
          · have r0 : ev (.tmp 22) = .int .u8 z := hr (22, some 7) (by simp); have r1 : ev (.tmp 25) = .int .u8 pw := hr (25, some 10) (by simp); have hk := he.1; clear hr he
            have e1 := ZO.out
            go_simp
          refine VFrom.cons (VStep.val _ rfl _ rfl (.pointer (some ⟨C, i, none⟩)) rfl trivial (fun ev wq hS he hr => ?_)) ?_
          · have r0 : ev (.tmp 18) = .slice (some ⟨C, 0, none⟩) n cap := hr (18, some 3) (by simp); have r1 : ev (.tmp 20) = .int .i64 (i : Int) := hr (20, some 5) (by simp); have hk := he.1; clear hr he
            have e1 := BD.out
            go_simp
          exact VFrom.nil
        case hS => exact hid (Kp.refl Nb wr).drew
        case hend =>
          intro af wy haf kh
          have HE := H2.out.kept kh.out (fun h => h)
          have hil : i < (ys.map (Value.int .u8) ++ rest).length := by rw [List.length_append, List.length_map, HYL.out]; have := BD.out; omega
          have HA3 : Hid (FlAt (wy.setCell ⟨C, i, none⟩ (.int .u8 zo)) B C (addK zs m s (3 + 1))) := hid (by
            rw [HN1.out]
            refine FlAt.set (HFk.out.kept kh.out (fun h => h) (fun h => h)) i zo (by rw [HYL.out]; exact BD.out.1) HZO.out)
          have HK3 := hid ((HK.out.trans kh.out (fun _ _ h => h.elim)).set i (.int .u8 zo))
          refine wp_store_at 5 (.tmp 27) (.tmp 26) rfl (p := ⟨C, i, none⟩) (v := .int .u8 zo) (by rw [haf.out]; kernel_rfl) (by rw [haf.out]; kernel_rfl) (store_u8 HE hil zo) ?_
          rw [haf.out]
          clear haf kh HE hil
          simp only [putAll, List.zip_cons_cons, List.zip_nil_right, List.foldl_cons, List.foldl_nil, Act.put, List.setIfInBounds_toArray, List.set_cons_zero, List.set_cons_succ]
          go_wp2
          exact ⟨⟨3 + 1, by omega, rfl, HA3, HK3⟩, by simp [intOf]⟩
      · obtain rfl : k = 0 := by omega
        have K9 := hid ((K1.out.mono (fun _ _ h => h.elim)).trans HK.out (fun _ _ h => h))
        go_wp2
        go_end0
        exact ⟨rfl, by rw [HAD.out]; exact HA.out, K9.out⟩


end Go.Proofs.Ytpgiinogfmhfiaa

namespace Go.Proofs.Ytpgiinogfmhfiaa
open Go.RowKit

theorem mark_info3L : ∃ i z, Try.prog.info? 24 = some i ∧ i.zero = some z ∧ i.size = 16 ∧ i.bytes = 16 ∧ z.cells.size = 16 := by
  have h : ((Try.prog.info? 24).map fun i => (i.zero.map fun z => z.cells.size, i.size, i.bytes)) = some (some 16, 16, 16) := by kernel_rfl
  obtain ⟨i, hi, h2⟩ := Option.map_eq_some_iff.1 h
  simp only [Prod.mk.injEq] at h2
  obtain ⟨z, hz, hz2⟩ := Option.map_eq_some_iff.1 h2.1
  exact ⟨i, z, hi, hz, h2.2.1, h2.2.2, hz2⟩
theorem mk_len {ms : List (List Int)} (h : ∀ i, MarkOk (markAt ms i)) : ∀ q ∈ ms, q.length = 16 := fun q hq => by
  obtain ⟨i, hi, rfl⟩ := List.mem_iff_getElem.1 hq
  have := (h i).len
  unfold markAt at this
  rw [List.getElem?_eq_getElem hi] at this
  exact this
theorem mk_rows {w : World} {v : Value} {ms : List (List Int)} (h : MkSl w v ms) : RowsSl markL (List.replicate 16 0) 16 w v ms := h.2
theorem markL_one' (m : List Int) : ∀ u ∈ markL m, u.oneCell' = true := fun u hu => by
  obtain ⟨z, _, rfl⟩ := List.mem_map.1 hu
  rfl
set_option maxHeartbeats 800000 in
theorem mclone_any (v : Value) (ms : List (List Int)) (w : World) (h : MkSl w v ms) (hbig : ms.length ≤ 100000) :
    Calls Try.prog 45 #[v] w fun e w' => ∃ v', e = .returned v' ∧ MkSl w' v' ms ∧ (∀ g, v'.ownBlock = some g → w.heap.size ≤ g ∧ g < w'.heap.size) ∧ Kp Nb w w' := by
  have q22 : ∀ (w : World) (a : Option Addr) (n c n' c' : Nat), (binOp .eql 22 (.slice a n c) (.slice none n' c')).run Try.prog w = .ok (.bool a.isNone) w := fun w a n c n' c' => Lib.run_eql_slice_nil w _ _ a n c n' c' Try.underlying22
  have HO := hid h.1
  have HR := hid (mk_rows h)
  have HLN := hid (mk_len h.1)
  obtain ⟨y, d, rfl⟩ := h.shape
  obtain ⟨n, hn⟩ : ∃ n, ms.length = n := ⟨_, rfl⟩
  rw [hn] at HR hbig ⊢
  have HN := hid hn
  have HB := hid hbig
  clear hn h
  cases y with
  | none =>
    have h0 : ms = [] := by
      rcases HR.out with ⟨-, h0⟩ | ⟨blk, off, cap, e, -⟩
      · exact h0
      · injection e with e; cases e
    subst h0
    go_enter Try.func45, Try.ntmps45
    go_wp2
    go_ret
    exact ⟨_, rfl, ⟨HO.out, .inl ⟨⟨_, _, rfl⟩, rfl⟩⟩, fun g hg => by simp [Value.ownBlock] at hg, Kp.refl _ _⟩
  | some a =>
    obtain ⟨i0, z, hi, hz0, hz1, hz2, hz3⟩ := mark_info3L
    have FR : Hid (RowsSl markL (List.replicate 16 0) 16 (w.alloc (.cells #[] 24 (0, 0))) (.slice (some a) n d) ms) := hid (HR.out.kept ((Kp.refl Nb w).alloc _))
    have FL : Hid (∀ q ∈ ms, (markL q).length = 16) := hid (fun q hq => by rw [markL_length]; exact HLN.out q hq)
    have LL : Hid (0 + ms.length ≤ maxLen ∧ (0 + ms.length) * 16 ≤ 140737488355328) := hid (by rw [HN.out]; unfold maxLen; omega)
    clear HR
    go_enter Try.func45, Try.ntmps45
    go_wp2_with (at_builtin; refine wpList_append_rows (f := markL) (z := List.replicate 16 0) (c := 16) rfl _ _ 22 rfl w.heap.size 24 i0 z 16 Try.underlying22 hi hz0 hz1 hz2 hz3 (by decide) _ 0 [] rfl (World.ownsRow_made w #[] 0 (Nat.le_refl _) (Nat.zero_le _) rfl) _ ms rfl FR.out FL.out (fun q _ => markL_one' q) LL.out.1 LL.out.2 ((Kp.refl Nb w).alloc _).size ?_)
    intro v9 w9 hown hgrow
    have hk := hid (((Kp.refl Nb w).alloc (.cells #[] 24)).grown hgrow (fun k hk h => by simp [Value.ownBlock] at hk; omega))
    have HO9 : Hid (w9.ownsRow w.heap.size 24 16 v9 ms.length (flatR markL ms)) := hid (by simpa only [Nat.zero_add, List.nil_append] using hown)
    have RS : Hid (MkSl w9 v9 ms) := hid ⟨HO.out, rows_owned HO9.out FL.out⟩
    have OW : Hid (∀ g, v9.ownBlock = some g → w.heap.size ≤ g ∧ g < w9.heap.size) := hid (fun g hg => by obtain ⟨h1, o, ho, -⟩ := row_cells HO9.out hg; exact ⟨h1, (Array.getElem?_eq_some_iff.1 ho).1⟩)
    obtain ⟨y9, c9, rfl⟩ := own_shape HO9.out
    clear hown hgrow HO9
    go_wp2
    go_ret
    exact ⟨_, rfl, RS.out, OW.out, hk.out⟩

/-- The marks that are lacking, of the first k: their places. -/
def lackT (zs : List Int) (ms : List (List Int)) (k : Nat) : List Nat := (List.range k).filter fun i => !mayB zs (markAt ms i)
theorem lackT_yes (zs : List Int) (ms : List (List Int)) (k : Nat) (h : mayB zs (markAt ms k) = false) : lackT zs ms (k + 1) = lackT zs ms k ++ [k] := by
  unfold lackT
  rw [List.range_succ, List.filter_append, List.filter_cons_of_pos (by rw [h]; rfl), List.filter_nil]
theorem lackT_no (zs : List Int) (ms : List (List Int)) (k : Nat) (h : mayB zs (markAt ms k) = true) : lackT zs ms (k + 1) = lackT zs ms k := by
  unfold lackT
  rw [List.range_succ, List.filter_append, List.filter_cons_of_neg (by rw [h]; decide), List.filter_nil, List.append_nil]
/-- What the iterator holds: boxes of a filter and of a list. -/
structure LkAt (w : World) (Bf Bl B C : Nat) (v : Value) (zs : List Int) (ms : List (List Int)) : Prop where
  bf : Boxed w Bf 29 (.pointer (some ⟨B, 0, none⟩))
  bl : Boxed w Bl 22 v
  fl : FlAt w B C zs
  sl : MkSl w v ms
theorem LkAt.kept {w w' : World} {Bf Bl B C : Nat} {v : Value} {zs : List Int} {ms : List (List Int)} (h : LkAt w Bf Bl B C v zs ms) (k : Kp Nb w w') : LkAt w' Bf Bl B C v zs ms :=
  ⟨(k.heap h.bf.lt (fun h => h)).trans h.bf, (k.heap h.bl.lt (fun h => h)).trans h.bl, h.fl.kept k (fun h => h) (fun h => h), h.sl.kept k⟩

theorem MkSl.keptV {S : Nat → Prop} {w w' : World} {v : Value} {ms : List (List Int)} (h : MkSl w v ms) (k : Kp S w w') (hS : ∀ g, v.ownBlock = some g → ¬ S g) : MkSl w' v ms := by
  refine ⟨h.1, ?_⟩
  rcases h.2 with h | ⟨blk, off, cap, rfl, hc, hm, hr⟩
  · exact .inl h
  · exact .inr ⟨blk, off, cap, rfl, hc, hm, fun i hi j u hu => k.cell (hr i hi j u hu) (hS blk rfl)⟩
set_option maxRecDepth 100000 in
set_option maxHeartbeats 2000000 in
theorem llacks_any (B C : Nat) (v : Value) (zs : List Int) (ms : List (List Int)) (w : World) (h : FlAt w B C zs) (hm : MkSl w v ms) (hbig : ms.length ≤ 100000) :
    Calls Try.prog 30 #[.pointer (some ⟨B, 0, none⟩), v] w fun e w' => ∃ (Bf Bl B' C' : Nat) (v' : Value), e = .returned (.func (.func 46) #[] #[.pointer (some ⟨Bl, 0, none⟩), .pointer (some ⟨Bf, 0, none⟩)]) ∧ LkAt w' Bf Bl B' C' v' zs ms ∧ w.heap.size ≤ Bf ∧ w.heap.size ≤ Bl ∧ w.heap.size ≤ B' ∧ w.heap.size ≤ C' ∧ (∀ g, v'.ownBlock = some g → w.heap.size ≤ g ∧ g < w'.heap.size) ∧ Bf ≠ Bl ∧ Kp Nb w w' := by
  obtain ⟨cap, rest, h1, h2, h3, h4⟩ := h.at'
  have HBY : Hid (BySl Nb w (.slice (some ⟨C, 0, none⟩) zs.length cap) zs) := hid ⟨h.ok, .inr ⟨C, 0, cap, rfl, h3, h4, fun i hi => by
    rw [Nat.zero_add, h2.cell i, List.getElem?_append_left (by rw [List.length_map]; exact hi), List.getElem?_map, List.getElem?_eq_getElem hi]
    rfl, fun _ h => h⟩⟩
  have HSZ := hid h.size
  have HOK := hid h.ok
  have HMK := hid hm
  obtain ⟨n, hn⟩ : ∃ n, zs.length = n := ⟨_, rfl⟩
  have HN := hid hn
  rw [hn] at h1 HBY HSZ
  obtain ⟨ym, dm, rfl⟩ := hm.shape
  obtain ⟨Bf, hBf⟩ : ∃ N, w.heap.size = N := ⟨_, rfl⟩
  obtain ⟨W, hW⟩ : ∃ W, W = (w.alloc (.cells #[.pointer none] 29)).alloc (.cells #[.slice none 0 0] 22) := ⟨_, rfl⟩
  have kW : Kp Nb w W := by rw [hW]; exact ((Kp.refl Nb w).alloc _).alloc _
  have KW := hid kW
  have XF : Hid (Boxed W Bf 29 (.pointer none)) := hid (by rw [hW, ← hBf]; exact (Boxed.new w _ _).alloc _)
  have XL : Hid (Boxed W (Bf + 1) 22 (.slice none 0 0)) := hid (by
    have h := Boxed.new (w.alloc (.cells #[.pointer none] 29)) 22 (.slice none 0 0)
    simp only [World.size_alloc] at h
    rw [hW, ← hBf]
    exact h)
  have H1 := hid (h1.kept kW (fun h => h))
  have c0 := H1.out.cell 0
  simp only [List.getElem?_cons_zero] at c0
  have LB : Hid (w.heap.size = Bf) := hid hBf
  have CC : Hid (Calls Try.prog 29 #[.slice (some ⟨C, 0, none⟩) n cap] W fun e w' => ∃ v', e = .returned v' ∧ w'.ownsRow W.heap.size 5 1 v' n (zs.map (Value.int .u8)) ∧ Kp Nb W w') := hid (by
    have h := clone_any _ zs W (HBY.out.kept kW (fun _ h => h)) (by rw [hn]; have := HSZ.out; omega)
    rw [hn] at h
    exact h)
  clear h h1 h2 h3 h4 hm hn kW
  go_enter Try.func30, Try.ntmps30
  go_upto_region 3 with fail
  rw [show (w.alloc (.cells #[.pointer none] 29)).alloc (.cells #[.slice none 0 0] 22) = W from hW.symm]
  clear hW hBf
  go_wp2_with fail
  refine CC.out.mono ?_
  rintro e w1 ⟨vc, rfl, ow, k1⟩
  obtain ⟨g, cp, rest', rfl, hg, hb, hn1, hx1⟩ := own_blk ow (by have := HSZ.out; omega)
  obtain ⟨W2, hW2⟩ : ∃ W, W = w1.alloc (.cells #[.slice (some ⟨g, 0, none⟩) n cp] 60) := ⟨_, rfl⟩
  obtain ⟨B2, hB2⟩ : ∃ N, w1.heap.size = N := ⟨_, rfl⟩
  have k2 : Kp Nb w1 W2 := by rw [hW2]; exact (Kp.refl Nb w1).alloc _
  have FL2 : Hid (FlAt W2 B2 g zs) := hid (by
    refine ⟨HOK.out, ⟨cp, rest', ?_, hb.kept k2 (fun h => h), by rw [HN.out]; exact hn1, hx1⟩, by rw [HN.out]; exact HSZ.out, fun e => ?_⟩
    · rw [HN.out, hW2, ← hB2]; exact Blk.new w1 _ [.slice (some ⟨g, 0, none⟩) n cp]
    · have := hb.lt; omega)
  have kk := k1.trans k2 (fun _ _ h => h)
  have XF2 : Hid (Boxed W2 Bf 29 (.pointer none)) := hid ((kk.heap XF.out.lt (fun h => h)).trans XF.out)
  have XL2 : Hid (Boxed W2 (Bf + 1) 22 (.slice none 0 0)) := hid ((kk.heap XL.out.lt (fun h => h)).trans XL.out)
  have K2 := hid (KW.out.trans kk (fun _ _ h => h))
  have LG : Hid (W.heap.size ≤ g ∧ W.heap.size ≤ B2 ∧ Bf + 1 < W.heap.size) := hid ⟨hg, by rw [← hB2]; exact k1.size, XL.out.lt⟩
  have CM := hid (mclone_any _ ms W2 (HMK.out.kept K2.out) hbig)
  clear ow k1 hg hb hn1 hx1 k2 kk XF XL KW H1 c0 CC
  go_wp2_with fail
  rw [show w1.alloc (.cells #[.slice (some ⟨g, 0, none⟩) n cp] 60) = W2 from hW2.symm]
  clear hW2 hB2
  refine CM.out.mono ?_
  rintro e w3 ⟨vm, rfl, sm, om, k3⟩
  have hf3 : Boxed w3 Bf 29 (.pointer none) := (k3.heap XF2.out.lt (fun h => h)).trans XF2.out
  have hl3 : Boxed w3 (Bf + 1) 22 (.slice none 0 0) := (k3.heap XL2.out.lt (fun h => h)).trans XL2.out
  have HF3 := hid hf3
  have HL3 := hid hl3
  have FL3 := hid (FL2.out.kept k3 (fun h => h) (fun h => h))
  have SM := hid sm
  have OM : Hid (∀ g, vm.ownBlock = some g → W2.heap.size ≤ g ∧ g < w3.heap.size) := hid om
  have K3 := hid (K2.out.trans k3 (fun _ _ h => h))
  have KS := hid XL2.out.lt
  obtain ⟨yv, dv, rfl⟩ := sm.shape
  have f1 := hf3.frozen
  have f2 := hl3.frozen
  have e1 := hf3.cell
  have e2 := hl3.cell
  clear sm om k3 hf3 hl3 XF2 XL2 FL2 K2 CM
  go_wp2
  obtain ⟨w4, hw4⟩ : ∃ W, W = w3.setCell ⟨Bf, 0, none⟩ (.pointer (some ⟨B2, 0, none⟩)) := ⟨_, rfl⟩
  obtain ⟨w5, hw5⟩ : ∃ W, W = w4.setCell ⟨Bf + 1, 0, none⟩ (.slice yv ms.length dv) := ⟨_, rfl⟩
  have KX : Hid (Kp (fun k => k = Bf ∨ k = Bf + 1) w3 w5) := hid (by
    rw [hw5, hw4]
    exact ((Kp.refl _ w3).setCell (p := ⟨Bf, 0, none⟩) (fun _ => .inl rfl) _).setCell (p := ⟨Bf + 1, 0, none⟩) (fun _ => .inr rfl) _)
  have XF5 : Hid (Boxed w5 Bf 29 (.pointer (some ⟨B2, 0, none⟩))) := hid (by
    have h4 : Boxed w4 Bf 29 (.pointer (some ⟨B2, 0, none⟩)) := by rw [hw4]; exact HF3.out.set _
    rw [hw5]
    exact (Below.heap_setCell _ _ _ _ (by intro e; dsimp only at e; omega)).trans h4)
  have XL5 : Hid (Boxed w5 (Bf + 1) 22 (.slice yv ms.length dv)) := hid (by
    have h4 : Boxed w4 (Bf + 1) 22 (.slice none 0 0) := by
      rw [hw4]
      exact (Below.heap_setCell _ _ _ _ (by intro e; dsimp only at e; omega)).trans HL3.out
    rw [hw5]
    exact h4.set _)
  have K5 : Hid (Kp Nb w w5) := hid (K3.out.trans KX.out (fun i hi h => by have h' : i = Bf ∨ i = Bf + 1 := h; have := LB.out; omega))
  have FL5 : Hid (FlAt w5 B2 g zs) := hid (FL3.out.kept KX.out (fun h => by have h' : B2 = Bf ∨ B2 = Bf + 1 := h; have := LG.out; omega) (fun h => by have h' : g = Bf ∨ g = Bf + 1 := h; have := LG.out; omega))
  have SM5 : Hid (MkSl w5 (.slice yv ms.length dv) ms) := hid (SM.out.keptV KX.out (fun g' hg h => by have h' : g' = Bf ∨ g' = Bf + 1 := h; have := OM.out g' hg; have := KS.out; omega))
  rw [show (w3.setCell ⟨Bf, 0, none⟩ (.pointer (some ⟨B2, 0, none⟩))).setCell ⟨Bf + 1, 0, none⟩ (.slice yv ms.length dv) = w5 from by rw [hw5, hw4]]
  clear hw4 hw5
  go_ret
  refine ⟨Bf, Bf + 1, B2, g, _, rfl, ⟨XF5.out, XL5.out, FL5.out, SM5.out⟩, ?_, ?_, ?_, ?_, fun g' hg => ?_, by omega, K5.out⟩
  · have := LB.out; omega
  · have := LB.out; omega
  · have := LB.out; have := LG.out; omega
  · have := LB.out; have := LG.out; omega
  · have := OM.out g' hg; have := LB.out; have := KS.out; have := KX.out.size; omega

end Go.Proofs.Ytpgiinogfmhfiaa

namespace Go.Proofs.Ytpgiinogfmhfiaa
open Go.RowKit Go.Shelf
attribute [local go_sem] Oper.semAt_some

section
variable {F : Fence} {n : Nat} {P : Program} {w w' : World} {ops : Array Oper} {rest : List Oper} {o : Oper} {a : Act} {Q : Exit → Act → World → Prop}
theorem wpListIn_loadL (hw : Region.wanted o (yielded ops a.tmps) = true) (T : TypeId) (x : Operand) (hop : o.op = .load T x) {p : Addr} (hx : a.eval x = .pointer (some p)) {v : Value} (hl : (Instr.loadAt T (.pointer (some p))).run P w = .ok v w)
    (hK : wpListIn F n P ops Q rest (a.put o.dst v) w) : wpListIn F n P ops Q (o :: rest) a w := by
  refine wpListIn_step fun K hK' => ?_
  rw [if_pos hw]
  unfold Oper.wpIn
  refine ⟨?_, ?_⟩
  · simp [Oper.about, hop]
  · rw [Oper.semAt_plain F _ _ (by rw [hop]; intro c hc'; cases hc')]
    simp only [execOp, hop, hx, Sem.run_bind, Sem.run_pure, Result.andThen_ok, hl]
    exact hK' _ _ hK
theorem wpListIn_storeL (hg : o.guard = none) (T : TypeId) (x y : Operand) (hop : o.op = .store T x y) {p : Addr} (hx : a.eval x = .pointer (some p)) {v : Value} (hy : a.eval y = v) (hl : (Instr.storeAt T (.pointer (some p)) v).run P w = .ok () w')
    (hK : wpListIn F n P ops Q rest (a.put o.dst undef) w') : wpListIn F n P ops Q (o :: rest) a w := by
  refine wpListIn_plain hg fun K hK' => ?_
  unfold Oper.wpIn
  refine ⟨?_, ?_⟩
  · simp [Oper.about, hop]
  · rw [Oper.semAt_plain F _ _ (by rw [hop]; intro c hc'; cases hc')]
    simp only [execOp, hop, hx, hy, Sem.run_bind, Sem.run_pure, Result.andThen_ok, hl]
    exact hK' _ _ hK
end
/-- Blocks that stay. -/
def KpB (S : Nat → Prop) (W W' : World) : Prop := W.heap.size ≤ W'.heap.size ∧ ∀ b, S b → W'.heap[b]? = W.heap[b]?
theorem KpB.trans {S : Nat → Prop} {A B C : World} (h : KpB S A B) (k : KpB S B C) : KpB S A C := ⟨Nat.le_trans h.1 k.1, fun b hb => (k.2 b hb).trans (h.2 b hb)⟩
def LkS (Bf Bl B C : Nat) (v : Value) : Nat → Prop := fun b => b = Bf ∨ b = Bl ∨ b = B ∨ b = C ∨ v.ownBlock = some b
theorem LkAt.keptB {w w' : World} {Bf Bl B C : Nat} {v : Value} {zs : List Int} {ms : List (List Int)} (h : LkAt w Bf Bl B C v zs ms) (k : KpB (LkS Bf Bl B C v) w w') : LkAt w' Bf Bl B C v zs ms := by
  refine ⟨(k.2 _ (.inl rfl)).trans h.bf, (k.2 _ (.inr (.inl rfl))).trans h.bl, ?_, h.sl.1, ?_⟩
  · obtain ⟨cap, rest, h1, h2, h3⟩ := h.fl.at'
    exact ⟨h.fl.ok, ⟨cap, rest, (k.2 _ (.inr (.inr (.inl rfl)))).trans h1, (k.2 _ (.inr (.inr (.inr (.inl rfl))))).trans h2, h3⟩, h.fl.size, h.fl.ne⟩
  · rcases h.sl.2 with h | ⟨blk, off, cap, rfl, hc, hm, hr⟩
    · exact .inl h
    · exact .inr ⟨blk, off, cap, rfl, hc, hm, fun i hi j u hu => (World.cell?_of_block (k.2 blk (.inr (.inr (.inr (.inr rfl)))))).trans (hr i hi j u hu)⟩
theorem KpB.nb {W W' : World} {Bf Bl B C : Nat} {v : Value} {zs : List Int} {ms : List (List Int)} (h : LkAt W Bf Bl B C v zs ms) (hv : ∀ g, v.ownBlock = some g → g < W.heap.size) (k : Kp Nb W W') : KpB (LkS Bf Bl B C v) W W' := ⟨k.size, fun b hb => by
  refine k.heap ?_ (fun h => h)
  rcases hb with rfl | rfl | rfl | rfl | hb
  · exact h.bf.lt
  · exact h.bl.lt
  · exact h.fl.lt.1
  · exact h.fl.lt.2
  · exact hv _ hb⟩
abbrev z16 : List Int := List.replicate 16 0

set_option maxRecDepth 100000 in
set_option maxHeartbeats 4000000 in
theorem lacks1_in (m : Nat) (hm : 1 ≤ m) (l Bf Bl B C : Nat) (v : Value) (zs : List Int) (ms : List (List Int)) (hbig : ms.length ≤ 100000) (J Jx : List Nat → World → Prop)
    (hJ : ∀ pre W W', J pre W → Kp Nb W W' → J pre W')
    (hY : ∀ (pre : List Nat) (x : Nat) (W : World), J pre W → pre.length < ms.length → YieldAt Fence.wide (m - 1) Try.prog l #[.int .i64 (x : Int), markV (markAt ms x)] W fun r W' =>
      KpB (LkS Bf Bl B C v) W W' ∧ ((r = .returned (.bool true) ∧ J (pre ++ [x]) W') ∨ (r = .returned (.bool false) ∧ Jx (pre ++ [x]) W')))
    (W : World) (hs : LkAt W Bf Bl B C v zs ms) (hv : ∀ g, v.ownBlock = some g → g < W.heap.size) (h0 : J [] W) :
    CallsIn Fence.wide m Try.prog 46 #[.func (.yield l) #[] #[], .pointer (some ⟨Bl, 0, none⟩), .pointer (some ⟨Bf, 0, none⟩)] W fun r W' => (∃ v, r = .returned v) ∧
      ((∃ xs, xs = lackT zs ms ms.length ∧ J xs W') ∨ (∃ pre, (∃ k, k ≤ ms.length ∧ pre = lackT zs ms k) ∧ Jx pre W')) := by
  have HY := hid hY
  have HJK := hid hJ
  have HJ := hid h0
  have HS := hid hs
  have HVB := hid hv
  obtain ⟨yv, dv, rfl⟩ := hs.sl.shape
  obtain ⟨n, hn⟩ : ∃ n, ms.length = n := ⟨_, rfl⟩
  rw [hn] at HY HS HVB hbig ⊢
  have HN := hid hn
  have cL := HS.out.bl.cell
  clear hs hv hY hJ h0 hn
  refine callsIn_of_wp Try.func46 rfl trivial ?_ rfl
  simp only [Try.ntmps46, List.size_toArray, List.length_cons, List.length_nil, Nat.reduceAdd, Nat.reduceSub, Array.replicate_succ, Array.replicate_zero, List.push_toArray, List.append_toArray, List.nil_append, List.cons_append]
  gi_wp2
  gi_loopw [8] (fun i wr => ∃ k : Nat, k ≤ n ∧ i = .int .i64 k ∧ Hid (J (lackT zs ms k) wr) ∧ Hid (KpB (LkS Bf Bl B C (.slice yv n dv)) W wr)) (fun i _ => n - (intOf i).toNat)
  case atStart => exact ⟨0, Nat.zero_le _, rfl, HJ, hid ⟨Nat.le_refl _, fun _ _ => rfl⟩⟩
  case round =>
    obtain ⟨k, hk, rfl, hJk, hK⟩ := hrel
    have HSk := hid (HS.out.keptB hK.out)
    by_cases hlt : k < n
    · have cF := HSk.out.bf.cell
      rcases HSk.out.sl.2 with ⟨⟨a, c, e0⟩, he⟩ | ⟨blk, off, cap', e1, hc, hm', hcell⟩
      · have := HN.out; rw [he] at this; simp at this; omega
      injection e1 with e1 e2 e3
      subst e1 e3
      have MO := hid (HSk.out.sl.1 k)
      have HR := hcell k (by rw [HN.out]; exact hlt)
      have HL := hid (load_mark MO.out HR)
      rw [HN.out] at hc
      unfold maxLen at hm'
      obtain ⟨x, hx⟩ : ∃ x, markAt ms k = x := ⟨_, rfl⟩
      rw [hx] at HL MO
      have HX := hid hx
      have HLT := hid hlt
      clear hcell HR hx e2
      obtain ⟨W5, hW5⟩ : ∃ W, W = (wr.alloc (.cells #[.int .u8 0, .int .u8 0, .int .u8 0, .int .u8 0, .int .u8 0, .int .u8 0, .int .u8 0, .int .u8 0, .int .u8 0, .int .u8 0, .int .u8 0, .int .u8 0, .int .u8 0, .int .u8 0, .int .u8 0, .int .u8 0] 24)).setCells wr.heap.size 0 (markL x) := ⟨_, rfl⟩
      obtain ⟨M5, hM5⟩ : ∃ N, wr.heap.size = N := ⟨_, rfl⟩
      have hb0 : Blk (wr.alloc (.cells #[.int .u8 0, .int .u8 0, .int .u8 0, .int .u8 0, .int .u8 0, .int .u8 0, .int .u8 0, .int .u8 0, .int .u8 0, .int .u8 0, .int .u8 0, .int .u8 0, .int .u8 0, .int .u8 0, .int .u8 0, .int .u8 0] 24)) wr.heap.size 24 (markL z16) := Blk.new wr 24 (markL z16)
      have HST : Hid ((Instr.storeAt 24 (.pointer (some ⟨wr.heap.size, 0, none⟩)) (markV x)).run Try.prog (wr.alloc (.cells #[.int .u8 0, .int .u8 0, .int .u8 0, .int .u8 0, .int .u8 0, .int .u8 0, .int .u8 0, .int .u8 0, .int .u8 0, .int .u8 0, .int .u8 0, .int .u8 0, .int .u8 0, .int .u8 0, .int .u8 0, .int .u8 0] 24)) = .ok () W5) := hid (by
        rw [hW5]
        exact store_mark MO.out (hb0.there 0 _ (by rw [markL_length, MO.out.len]; exact Nat.le_refl 16)))
      have BM5 : Hid (Blk W5 M5 24 (markL x)) := hid (by
        rw [hW5, ← hM5]
        exact row_set hb0 (by rw [markL_length, MO.out.len]; rfl))
      have K5 : Hid (Kp Nb wr W5) := hid (by
        rw [hW5]
        exact Kp.setCells (fun h => absurd h (Nat.lt_irrefl _)) _ _ _ ((Kp.refl Nb wr).alloc _))
      have HVW : Hid (∀ g, (Value.slice (some ⟨blk, off, none⟩) n dv).ownBlock = some g → g < wr.heap.size) := hid (fun g hg => Nat.lt_of_lt_of_le (HVB.out g hg) hK.out.1)
      have KB5 : Hid (KpB (LkS Bf Bl B C (.slice (some ⟨blk, off, none⟩) n dv)) wr W5) := hid (KpB.nb HSk.out HVW.out K5.out)
      have HS5 := hid (HSk.out.keptB KB5.out)
      have HL5 := hid (load_mark MO.out (range_of BM5.out))
      have cF5 := HS5.out.bf.cell
      have CM : Hid (Calls Try.prog 17 #[.pointer (some ⟨B, 0, none⟩), markV x] W5 fun e w' => e = .returned (.bool (mayB zs x)) ∧ Kp Nb W5 w') := hid (lmay_any B C zs x W5 HS5.out.fl MO.out)
      rw [hM5] at HST
      clear hW5 hb0 cF
      obtain ⟨b, hb⟩ : ∃ b, mayB zs x = b := ⟨_, rfl⟩
      rw [hb] at CM
      have HBB := hid hb
      clear hb
      cases b
      · have HT : Hid (lackT zs ms (k + 1) = lackT zs ms k ++ [k]) := hid (lackT_yes zs ms k (by rw [HX.out]; exact HBB.out))
        have HLEN : Hid ((lackT zs ms k).length < n) := hid (by
          have h := List.length_filter_le (fun i => !mayB zs (markAt ms i)) (List.range k)
          rw [List.length_range] at h
          unfold lackT
          omega)
        gi_wp2_with (first
          | (refine wpListIn_loadL rfl 24 (.tmp 11) rfl (p := ⟨blk, off + k * 16, none⟩) (by rfl) HL.out ?_)
          | (refine wpListIn_storeL rfl 24 (.tmp 5) (.tmp 12) rfl (p := ⟨M5, 0, none⟩) (by rfl) (v := markV x) (by rfl) HST.out ?_)
          | (refine wpListIn_loadL rfl 24 (.tmp 5) rfl (p := ⟨M5, 0, none⟩) (by rfl) HL5.out ?_)
          | (refine wpListIn_loadL (by first | rfl | kernel_rfl) 24 (.tmp 5) rfl (p := ⟨M5, 0, none⟩) (by rfl) HL6.out ?_)
          | (refine ⟨trivial, ?_⟩; gi_at_call 17; refine (callsIn_wide.2 CM.out).mono ?_; rintro r w2 ⟨rfl, k2⟩; have K6 := hid (K5.out.trans k2 (fun _ _ h => h)); have HL6 := hid (load_mark MO.out (range_of (BM5.out.kept k2 (fun h => h)))); obtain ⟨fn, tmps, assign, body, hy, hR⟩ := HY.out (lackT zs ms k) k w2 (HJK.out _ _ _ hJk.out K6.out) HLEN.out; rw [HX.out] at hy; have HRR := hid hR; clear hR k2 cF5))
        have KX6 := hid (hK.out.trans (KpB.nb HSk.out HVW.out K6.out))
        refine HRR.out.mono ?_
        rintro r W3 ⟨kk, (⟨rfl, hJ3⟩ | ⟨rfl, hJx3⟩)⟩
        · have JX := hid hJ3
          have KX := hid (KX6.out.trans kk)
          clear hJ3 kk hy
          gi_wp2
          all_goals
            go_roundw
            case rel => exact ⟨k + 1, HLT.out, by go_num, by rw [HT.out]; exact JX, KX⟩
            case measure => have := HLT.out; simp [intOf]; omega
        · have JX := hid hJx3
          clear hJx3 kk hy
          gi_wp2
          refine bodyPost_ret (results_none rfl _ _ _) rfl ?_
          exact ⟨⟨_, rfl⟩, .inr ⟨_, ⟨k + 1, HLT.out, rfl⟩, by rw [HT.out]; exact JX.out⟩⟩
      · have HT : Hid (lackT zs ms (k + 1) = lackT zs ms k) := hid (lackT_no zs ms k (by rw [HX.out]; exact HBB.out))
        gi_wp2_with (first
          | (refine wpListIn_loadL rfl 24 (.tmp 11) rfl (p := ⟨blk, off + k * 16, none⟩) (by rfl) HL.out ?_)
          | (refine wpListIn_storeL rfl 24 (.tmp 5) (.tmp 12) rfl (p := ⟨M5, 0, none⟩) (by rfl) (v := markV x) (by rfl) HST.out ?_)
          | (refine wpListIn_loadL rfl 24 (.tmp 5) rfl (p := ⟨M5, 0, none⟩) (by rfl) HL5.out ?_)
          | (refine ⟨trivial, ?_⟩; gi_at_call 17; refine (callsIn_wide.2 CM.out).mono ?_; rintro r w2 ⟨rfl, k2⟩; have K6 := hid (K5.out.trans k2 (fun _ _ h => h)); clear k2 cF5))
        have JX := hid (HJK.out _ _ _ hJk.out K6.out)
        have KX := hid (hK.out.trans (KpB.nb HSk.out HVW.out K6.out))
        refine ⟨(fun f h => by cases h), ?_⟩
        gi_wp2
        all_goals
          go_roundw
          case rel => exact ⟨k + 1, HLT.out, by go_num, by rw [HT.out]; exact JX, KX⟩
          case measure => have := HLT.out; simp [intOf]; omega
    · obtain rfl : k = n := by omega
      gi_wp2
      go_end0
      exact ⟨⟨_, rfl⟩, .inl ⟨_, rfl, hJk.out⟩⟩

/-- The iterator's contract. -/
theorem lacks_seq (n : Nat) (hn : 1 ≤ n) (Bf Bl B C : Nat) (v : Value) (zs : List Int) (ms : List (List Int)) (hbig : ms.length ≤ 100000) (w : World) (hs : LkAt w Bf Bl B C v zs ms) (hv : ∀ g, v.ownBlock = some g → g < w.heap.size) :
    SeqW Fence.wide n Try.prog 46 #[.pointer (some ⟨Bl, 0, none⟩), .pointer (some ⟨Bf, 0, none⟩)] (fun x : Nat => #[Value.int .i64 (x : Int), markV (markAt ms x)]) (KpB (LkS Bf Bl B C v)) (fun xs _ => xs = lackT zs ms ms.length) (fun pre _ => ∃ k, k ≤ ms.length ∧ pre = lackT zs ms k) ms.length w := fun l J Jx W hW hJ _ hY h0 => by
  have k : Kp Nb w W := Kp.of_below hW
  exact lacks1_in n hn l Bf Bl B C v zs ms hbig J Jx (fun pre A C hj hk => hJ pre A C none hj ⟨hk.os, hk.tape, hk.output, hk.size, fun i hi _ => hk.block i hi (fun h => h)⟩ (fun r e => by cases e)) hY W (hs.kept k) (fun g hg => Nat.lt_of_lt_of_le (hv g hg) k.size) h0

end Go.Proofs.Ytpgiinogfmhfiaa

namespace Go.Proofs.Ytpgiinogfmhfiaa
open Go.RowKit Go.Shelf
attribute [local go_sem] Oper.semAt_some

abbrev f1B (x : Nat) : List Value := [.int .i64 (x : Int)]
abbrev f2B (ms : List (List Int)) (x : Nat) : List Value := markL (markAt ms x)
theorem fiB_load (w : World) (B : Nat) (u : Value) (h : w.cell? ⟨B, 0, none⟩ = some u) : (Instr.loadAt 36 (.pointer (some ⟨B, 0, none⟩))).run Try.prog w = .ok u w := by go_simp
theorem fiB_make (w : World) (x : Int) : (Instr.buildSlice 36 1 #[(0, .int .i64 x)]).run Try.prog w = .ok (.slice (some ⟨w.heap.size, 0, none⟩) 1 1) (w.alloc (.cells #[.int .i64 x] 3 (0, 0))) := by go_simp
theorem fiB_store (w : World) (B g n cap : Nat) (u : Value) (h : w.cell? ⟨B, 0, none⟩ = some u) (hf : w.frozen? ⟨B, 0, none⟩ = false) : (Instr.storeAt 36 (.pointer (some ⟨B, 0, none⟩)) (.slice (some ⟨g, 0, none⟩) n cap)).run Try.prog w = .ok () (w.setCell ⟨B, 0, none⟩ (.slice (some ⟨g, 0, none⟩) n cap)) := by go_simp
theorem fiB_info : (Try.prog.info? 3).map (fun i => (i.zero, i.size, i.bytes)) = some (some (.int .i64 0), 1, 8) := by kernel_rfl
theorem fmB_load (w : World) (B : Nat) (u : Value) (h : w.cell? ⟨B, 0, none⟩ = some u) : (Instr.loadAt 22 (.pointer (some ⟨B, 0, none⟩))).run Try.prog w = .ok u w := by go_simp
theorem fmB_make (w : World) (m : List Int) (hm : m.length = 16) : (Instr.buildSlice 22 1 #[(0, markV m)]).run Try.prog w = .ok (.slice (some ⟨w.heap.size, 0, none⟩) 1 1) (w.alloc (.cells (markL m).toArray 24 (0, 0))) := by
  obtain ⟨a0, a1, a2, a3, a4, a5, a6, a7, a8, a9, a10, a11, a12, a13, a14, a15, rfl⟩ := sixteen m hm
  kernel_rfl
theorem fmB_store (w : World) (B g n cap : Nat) (u : Value) (h : w.cell? ⟨B, 0, none⟩ = some u) (hf : w.frozen? ⟨B, 0, none⟩ = false) : (Instr.storeAt 22 (.pointer (some ⟨B, 0, none⟩)) (.slice (some ⟨g, 0, none⟩) n cap)).run Try.prog w = .ok () (w.setCell ⟨B, 0, none⟩ (.slice (some ⟨g, 0, none⟩) n cap)) := by go_simp
theorem fmB_info : (Try.prog.info? 24).map (fun i => (i.zero, i.size, i.bytes)) = some (some (.agg #[.int .u8 0, .int .u8 0, .int .u8 0, .int .u8 0, .int .u8 0, .int .u8 0, .int .u8 0, .int .u8 0, .int .u8 0, .int .u8 0, .int .u8 0, .int .u8 0, .int .u8 0, .int .u8 0, .int .u8 0, .int .u8 0]), 16, 16) := by kernel_rfl
theorem fmB_notnil (w : World) (f : Nat) (c : Array Value) : (binOp BinOp.eql 63 (.func (.func f) #[] c) .nilFunc).run Try.prog w = .ok (.bool false) w := by kernel_rfl

/-- One of the two, whose element is loaded from its own block. -/
def mkChB (B T e size base k : Nat) (v xa x : Value) (xs cells : List Value) (tb tx d i it : Nat) (src : World → Prop) : Ch :=
  { T, B, e, size, base, k, v, x, xs, cells, tb, tx, dl := d, dm := d + 1, ds := d + 2, dp := d + 3, il := i, im := i + 1, ib := i + 2, ip := i + 3, it, xa, src }

theorem mkB_ok {P : Program} {ops : Array Oper} {N : Nat} {B T e size base k : Nat} {v x : Value} {xs cells : List Value} {tb tx d i it Tf Nf : Nat} {src : World → Prop}
    (load : ∀ (w : World) (u : Value), w.cell? ⟨B, 0, none⟩ = some u → (Instr.loadAt T (.pointer (some ⟨B, 0, none⟩))).run P w = .ok u w)
    (make : ∀ w : World, (Instr.buildSlice T 1 #[(0, x)]).run P w = .ok (.slice (some ⟨w.heap.size, 0, none⟩) 1 1) (w.alloc (.cells cells.toArray e (0, 0))))
    (store : ∀ (w : World) (g n cap : Nat) (u : Value), w.cell? ⟨B, 0, none⟩ = some u → w.frozen? ⟨B, 0, none⟩ = false → (Instr.storeAt T (.pointer (some ⟨B, 0, none⟩)) (.slice (some ⟨g, 0, none⟩) n cap)).run P w = .ok () (w.setCell ⟨B, 0, none⟩ (.slice (some ⟨g, 0, none⟩) n cap)))
    (slice : P.underlying T = some (.slice e)) {z : Value} {bytes : Nat} (info : (P.info? e).map (fun i => (i.zero, i.size, i.bytes)) = some (some z, size, bytes)) (hz : z.cells.size = size) (hreach : (k + 1) * bytes ≤ 140737488355328) (hmost : k + 1 ≤ maxLen)
    (hsize : 0 < size) (one : ∀ u ∈ cells, u.oneCell' = true) (len : cells.length = size) (te : T ≠ e)
    {ol om ob op ot : Oper} (hl : ops[i]? = some ol) (hl2 : ol.op = .load T (.tmp tb) ∧ ol.dst = some d ∧ ol.guard = none) (hm : ops[i + 1]? = some om) (hm2 : om.op = .load Tf (.tmp tx) ∧ om.dst = some (d + 1) ∧ om.guard = none)
    (hsrc : ∀ w, src w → (Instr.loadAt Tf (.pointer (some ⟨Nf, 0, none⟩))).run P w = .ok x w)
    (hb : ops[i + 2]? = some ob) (hb2 : ob.op = .buildSlice T 1 #[(0, .tmp (d + 1))] ∧ ob.dst = some (d + 2) ∧ ob.guard = none)
    (hp : ops[i + 3]? = some op) (hp2 : op.op = .call { callee := .builtin .append, args := #[.tmp d, .tmp (d + 2)], argTypes := #[T, T] } ∧ op.dst = some (d + 3) ∧ op.guard = none)
    (ht : ops[it]? = some ot) (ht2 : ot.op = .store T (.tmp tb) (.tmp (d + 3)) ∧ ot.dst = none ∧ ot.guard = none)
    (w1 : waitsB ops (i + 2) (i + 1) = true) (w2 : waitsB ops (i + 3) i = true) (w3 : waitsB ops (i + 3) (i + 2) = true) (w4 : waitsB ops it (i + 3) = true)
    (hd : d + 3 < N) (htb : tb < d) (htx : tx < d) (hit : i + 3 < it) : (mkChB B T e size base k v (.pointer (some ⟨Nf, 0, none⟩)) x xs cells tb tx d i it src).Ok P ops N := by
  refine { load := load, make := make, store := store, slice := slice, info := ?_, size := hsize, one := one, len := len, most := hmost, te := te, ol := ⟨ol, hl, hl2⟩, om := ⟨om, hm, (fun d h => by rw [hm2.1] at h; cases h), (fun _ _ => by simp [Oper.about, hm2.1]), (fun w a hs h => by simp only [mkChB] at h hs; simp [execOp, hm2.1, h, mkChB, hsrc w hs]), hm2.2⟩, ob := ⟨ob, hb, hb2.1, hb2.2.1, hb2.2.2, waits_of w1 hb⟩, op := ⟨op, hp, hp2.1, hp2.2.1, hp2.2.2, waits_of w2 hp, waits_of w3 hp⟩, ot := ⟨ot, ht, ht2.1, ht2.2.1, ht2.2.2, waits_of w4 ht⟩, ds := ?_, ne := ?_, ni := ?_ }
  · obtain ⟨i0, hi, h1, h2, h3⟩ := info_parts info
    exact ⟨i0, z, bytes, hi, h1, h2, h3, hz, hreach⟩
  · simp only [mkChB]; omega
  · simp only [mkChB]; omega
  · simp only [mkChB]; omega

theorem row_tyB {W : World} {base e size k : Nat} {v : Value} {xs : List Value} (h : W.ownsRow base e size v k xs) {g : Nat} (hg : v.ownBlock = some g) : ∃ cs fr, W.heap[g]? = some (Obj.cells cs e fr) := by
  rcases h.2 with ⟨rfl, _⟩ | ⟨g', cap, cur, rfl, hb, hgg, _⟩
  · simp [Value.ownBlock] at hg
  · have : g' = g := by simpa [Value.ownBlock] using hg
    subst this
    exact ⟨_, _, hgg⟩

/-- The blocks that a round turns. -/
def S0B (q : CollAt) (v1 v2 : Value) : Nat → Prop := fun b => b = q.B1 ∨ b = q.B2 ∨ v1.ownBlock = some b ∨ v2.ownBlock = some b
theorem S0B.coll {q : CollAt} {v1 v2 : Value} {W : World} {k1 k2 : Nat} {xs ys : List Value} (o1 : W.ownsRow q.base q.e1 q.s1 v1 k1 xs) (o2 : W.ownsRow q.base q.e2 q.s2 v2 k2 ys) (b : Nat) (h : S0B q v1 v2 b) : CollS q b := by
  rcases h with h | h | h | h
  · exact .inl h
  · exact .inr (.inl h)
  · exact .inr (.inr (row_cells o1 h).1)
  · exact .inr (.inr (row_cells o2 h).1)
/-- What has another type than the boxes and the rows isn't turned. -/
theorem S0B.ty {q : CollAt} {v1 v2 : Value} {W : World} {k1 k2 : Nat} {xs ys : List Value} (b1 : Boxed W q.B1 q.T1 v1) (b2 : Boxed W q.B2 q.T2 v2) (o1 : W.ownsRow q.base q.e1 q.s1 v1 k1 xs) (o2 : W.ownsRow q.base q.e2 q.s2 v2 k2 ys)
    {b t : Nat} {cs : Array Value} {fr : Nat × Nat} (hb : W.heap[b]? = some (Obj.cells cs t fr)) (h1 : t ≠ q.T1) (h2 : t ≠ q.T2) (h3 : t ≠ q.e1) (h4 : t ≠ q.e2) : ¬ S0B q v1 v2 b := by
  rintro (rfl | rfl | h | h)
  · have := hb.symm.trans (show W.heap[q.B1]? = some _ from b1)
    injection this with h; injection h with _ h; exact h1 h
  · have := hb.symm.trans (show W.heap[q.B2]? = some _ from b2)
    injection this with h; injection h with _ h; exact h2 h
  · obtain ⟨cs', fr', e⟩ := row_tyB o1 h
    have := hb.symm.trans e
    injection this with h; injection h with _ h; exact h3 h
  · obtain ⟨cs', fr', e⟩ := row_tyB o2 h
    have := hb.symm.trans e
    injection this with h; injection h with _ h; exact h4 h

theorem own_lt {W : World} {base e size k : Nat} {v : Value} {xs : List Value} (h : W.ownsRow base e size v k xs) {g : Nat} (hg : v.ownBlock = some g) : base ≤ g := (row_cells h hg).1
/-- What stands between the boxes and the rows isn't turned. -/
theorem Moves.kpB {q : CollAt} {v1 v2 : Value} {W W' : World} {k1 k2 H : Nat} {xs ys : List Value} {S : Nat → Prop} (m : Moves (S0B q v1 v2) W W') (o1 : W.ownsRow q.base q.e1 q.s1 v1 k1 xs) (o2 : W.ownsRow q.base q.e2 q.s2 v2 k2 ys)
    (hS : ∀ b, S b → H ≤ b ∧ b < q.base) (h1 : q.B1 < H) (h2 : q.B2 < H) (hb : q.base ≤ W.heap.size) : KpB S W W' :=
  ⟨m.size, fun b hb' => m.same b (by have := hS b hb'; omega) (by
    have h3 := hS b hb'
    rintro (e | e | e | e)
    · omega
    · omega
    · have := own_lt o1 e; omega
    · have := own_lt o2 e; omega)⟩
theorem CollI.keptB {α : Type} {q : CollAt} {f1 f2 : α → List Value} {w W W' : World} {Bm : Nat} {m : Int} {pre : List α} (h : CollI q f1 f2 w Bm m pre W) (k : Kp Nb W W') : CollI q f1 f2 w Bm m pre W' := by
  obtain ⟨⟨⟨v1, v2, b1, b2, o1, o2, hs⟩, hm, hl, hb⟩, hB⟩ := h
  exact ⟨⟨⟨v1, v2, (k.heap b1.lt (fun h => h)).trans b1, (k.heap b2.lt (fun h => h)).trans b2, ownsRow_same o1 (fun g hg => by obtain ⟨-, o, ho, -⟩ := row_cells o1 hg; exact k.heap (Array.getElem?_eq_some_iff.1 ho).1 (fun h => h)), ownsRow_same o2 (fun g hg => by obtain ⟨-, o, ho, -⟩ := row_cells o2 hg; exact k.heap (Array.getElem?_eq_some_iff.1 ho).1 (fun h => h)), hs⟩, by
    have hlt : Bm < W.heap.size := by
      unfold World.cell? at hm
      cases hx : W.heap[Bm]? with
      | none => rw [hx] at hm; cases hm
      | some o => exact (Array.getElem?_eq_some_iff.1 hx).1
    exact (World.cell?_of_block (k.heap hlt (fun h => h))).trans hm, hl, Nat.le_trans hb k.size⟩, hB.trans (k.below hB.size (fun _ _ h => h))⟩
/-- The mark's own block, apart from the row. -/
def AxB (q : CollAt) (ms : List (List Int)) (fr : Nat → Act) (x : Nat) (a' : Act) (W : World) : Prop :=
  ∃ N u, q.base ≤ N ∧ a' = fr N ∧ Blk W N 24 (markL (markAt ms x)) ∧ Boxed W q.B2 q.T2 u ∧ u.ownBlock ≠ some N
theorem axB_own (q : CollAt) (ms : List (List Int)) (fr : Nat → Act) (x : Nat) (a' : Act) {B : Nat} : OwnFrom B (fun (_ : Unit) W => AxB q ms fr x a' W) :=
  Own.from (fun _ A W row hs hg hr => by
    obtain ⟨N, u, h1, h2, h3, h4, h5⟩ := hs
    exact ⟨N, u, h1, h2, (hg.block N h3.lt (fun e => by obtain ⟨o, ho, hc⟩ := hr _ e.symm; rw [show A.heap[N]? = _ from h3] at ho; cases ho; cases hc)).trans h3, h4.kept hg (fun e => by
      obtain ⟨o, ho, hc⟩ := hr _ e.symm
      have := (show A.heap[_]? = _ from h4).symm.trans ho
      cases this
      cases hc), h5⟩) _
theorem collB_region {F : Fence} {n : Nat} {P : Program} {ops : Array Oper} {Q : Exit → Act → World → Prop} {rid N : Nat} {a : Act} {W : World} {q : CollAt} {y1 : Value} {ms : List (List Int)} {pre : List Nat} {x : Nat} {tb1 tx1 tb2 tx2 d : Nat}
    (hmx : P.follows .mixedOrders = true) (hup : upsB ops = true) (hsz : ops.size = 10)
    {v1 v2 : Value} (b1 : Boxed W q.B1 q.T1 v1) (b2 : Boxed W q.B2 q.T2 v2) (o1 : W.ownsRow q.base q.e1 q.s1 v1 pre.length (pre.flatMap f1B)) (o2 : W.ownsRow q.base q.e2 q.s2 v2 pre.length (pre.flatMap (f2B ms))) (hs : ∀ g, v1.ownBlock = some g → v2.ownBlock ≠ some g)
    {src : World → Prop} {xa x2 : Value}
    (k1 : (mkCh q.B1 q.T1 q.e1 q.s1 q.base pre.length v1 y1 (pre.flatMap f1B) (f1B x) tb1 tx1 d 0 8).Ok P ops N)
    (k2 : (mkChB q.B2 q.T2 q.e2 q.s2 q.base pre.length v2 xa x2 (pre.flatMap (f2B ms)) ((f2B ms) x) tb2 tx2 (d + 4) 4 9 src).Ok P ops N)
    (hsrc : ∀ w', Moves (S0B q v1 v2) W w' → src w')
    (hN : a.tmps.size = N) (t1 : a.eval (.tmp tb1) = .pointer (some ⟨q.B1, 0, none⟩)) (t2 : a.eval (.tmp tb2) = .pointer (some ⟨q.B2, 0, none⟩)) (x1 : a.eval (.tmp tx1) = y1) (x2' : a.eval (.tmp tx2) = xa)
    (hd1 : tb1 < d ∧ tx1 < d) (hd2 : tb2 < d ∧ tx2 < d) (hB : q.B1 ≠ q.B2) (e12 : q.T1 ≠ q.e2) (e21 : q.T2 ≠ q.e1) (hbase : q.base ≤ W.heap.size)
    (hQ : ∀ (a' : Act) (W' : World), Coll q f1B (f2B ms) (pre ++ [x]) W' → Moves (S0B q v1 v2) W W' → Q .normal a' W') :
    (Code.region rid ops true).wpIn F n P Q a W := by
  refine two_appends hmx (ups_of hup) k1 k2 hsz ?_ ?_ ?_ ?_ hN t1 t2 x1 x2' b1 b2 o1 o2 hB e12 e21 hs hbase hbase (fun _ _ => trivial) hsrc ?_
  · intro i hi
    simp only [mkCh, mkChB, List.mem_cons, List.not_mem_nil, or_false]
    omega
  · simp only [mkCh, mkChB, List.mem_cons, List.not_mem_nil, or_false]
    omega
  · simp only [mkCh, mkChB, List.mem_cons, List.not_mem_nil, or_false]
    omega
  · simp only [mkCh, mkChB, List.mem_cons, List.not_mem_nil, or_false]
    omega
  · rintro a' W' u1 u2 ⟨c1, c2⟩ ⟨c3, c4⟩ hsep hm
    refine hQ a' W' ⟨u1, u2, c1, c3, ?_, ?_, hsep⟩ hm
    · rw [List.length_append, List.flatMap_append, List.flatMap_singleton]
      exact c2
    · rw [List.length_append, List.flatMap_append, List.flatMap_singleton]
      exact c4


theorem static_own (P : Prop) {B : Nat} : OwnFrom B (fun (_ : Unit) (_ : World) => P) := Own.from (fun _ _ _ _ hs _ _ => hs) _
theorem lackT_pre {zs : List Int} {ms : List (List Int)} {k : Nat} {pre : List Nat} {x : Nat} (h : pre ++ [x] = lackT zs ms k) (hk : k ≤ ms.length) : pre = (lackT zs ms ms.length).take pre.length := by
  have e : lackT zs ms ms.length = lackT zs ms k ++ ((List.range' k (ms.length - k)).filter fun i => !mayB zs (markAt ms i)) := by
    unfold lackT
    rw [← List.filter_append]
    congr 1
    obtain ⟨d, hd⟩ : ∃ d, ms.length = k + d := ⟨ms.length - k, by omega⟩
    rw [hd, Nat.add_sub_cancel_left, List.range_eq_range', List.range_eq_range', ← List.range'_append_1, Nat.zero_add]
  rw [e, ← h, List.append_assoc, List.take_left]

set_option maxRecDepth 100000 in
set_option maxHeartbeats 4000000 in
theorem llacks_in (n : Nat) (hn : 3 ≤ n) (B C : Nat) (v : Value) (zs : List Int) (ms : List (List Int)) (m : Int) (w : World) (hf : FlAt w B C zs) (hv : MkSl w v ms) (hbig : ms.length ≤ 100000) :
    CallsIn Fence.wide n Try.prog 12 #[.pointer (some ⟨B, 0, none⟩), v, .int .i64 m] w fun e w' => ∃ v1 v2 xs, e = .returned (.tuple #[v1, v2]) ∧ xs = (lackT zs ms ms.length).take m.toNat ∧
      w'.ownsRow w.heap.size 3 1 v1 xs.length (xs.flatMap f1B) ∧ w'.ownsRow w.heap.size 24 16 v2 xs.length (xs.flatMap (f2B ms)) ∧ Below w.heap.size w w' := by
  have h1 : 1 ≤ n := by omega
  have hnil := fun (w : World) (c : Array Value) => fmB_notnil w 46 c
  have MKO := hid hv.1
  have CC : Hid (∀ wx, Kp Nb w wx → Calls Try.prog 30 #[.pointer (some ⟨B, 0, none⟩), v] wx fun e w' => ∃ (Bf Bl B' C' : Nat) (v' : Value), e = .returned (.func (.func 46) #[] #[.pointer (some ⟨Bl, 0, none⟩), .pointer (some ⟨Bf, 0, none⟩)]) ∧ LkAt w' Bf Bl B' C' v' zs ms ∧ wx.heap.size ≤ Bf ∧ wx.heap.size ≤ Bl ∧ wx.heap.size ≤ B' ∧ wx.heap.size ≤ C' ∧ (∀ g, v'.ownBlock = some g → wx.heap.size ≤ g ∧ g < w'.heap.size) ∧ Bf ≠ Bl ∧ Kp Nb wx w') :=
    hid fun wx k => (llacks_any B C v zs ms wx (hf.kept k (fun h => h) (fun h => h)) (hv.kept k) hbig).mono fun e w' ⟨Bf, Bl, B', C', v', h1, h2, h3, h4, h5, h6, h7, h8, h9⟩ =>
      ⟨Bf, Bl, B', C', v', h1, h2, h3, h4, h5, h6, h7, h8, h9⟩
  have HBIG := hid hbig
  clear hv hf hbig
  refine callsIn_of_wp_marks Try.func12 rfl trivial ?_ rfl
  simp only [Try.ntmps12, List.size_toArray, List.length_cons, List.length_nil, Nat.reduceAdd, Nat.reduceSub, Array.replicate_succ, Array.replicate_zero, List.push_toArray, List.append_toArray, List.nil_append, List.cons_append]
  gi_wp2_with (refine ⟨trivial, ?_⟩; gi_at_call 30; refine (callsIn_wide.2 (CC.out _ ((((Kp.refl Nb w).alloc _).alloc _).alloc _))).mono ?_; rintro r W0 ⟨Bf, Bl, B', C', v', rfl, c3, l1, l2, l3, l4, l5, l6, k0⟩)
  have b0 := Boxed.new w 3 (.int .i64 m)
  have b1 := Boxed.new (w.alloc (.cells #[.int .i64 m] 3)) 36 (.slice none 0 0)
  have b2 := Boxed.new ((w.alloc (.cells #[.int .i64 m] 3)).alloc (.cells #[.slice none 0 0] 36)) 22 (.slice none 0 0)
  simp only [World.size_alloc] at b1 b2 l1 l2 l3 l4 l5
  have d0 := (b0.alloc (.cells #[.slice none 0 0] 36)).alloc (.cells #[.slice none 0 0] 22)
  have d1 := b1.alloc (.cells #[.slice none 0 0] 22)
  have c0' : Boxed W0 w.heap.size 3 (.int .i64 m) := (k0.heap (by simp; omega) (fun h => h)).trans d0
  have c1' : Boxed W0 (w.heap.size + 1) 36 (.slice none 0 0) := (k0.heap (by simp) (fun h => h)).trans d1
  have c2' : Boxed W0 (w.heap.size + 1 + 1) 22 (.slice none 0 0) := (k0.heap (by simp) (fun h => h)).trans b2
  have hB0 : Below w.heap.size w W0 := (((((Kp.refl Nb w).alloc _).alloc _).alloc _).trans k0 (fun _ _ h => h)).below (Nat.le_refl _) (fun _ _ h => h)
  obtain ⟨Z, hZ0⟩ : ∃ Z, Z = W0.heap.size := ⟨_, rfl⟩
  have HLK : Hid (∀ b, LkS Bf Bl B' C' v' b → w.heap.size + 1 + 1 + 1 ≤ b ∧ b < Z) := hid (fun b hb => by
    rcases hb with rfl | rfl | rfl | rfl | hb
    · exact ⟨l1, by rw [hZ0]; exact c3.bf.lt⟩
    · exact ⟨l2, by rw [hZ0]; exact c3.bl.lt⟩
    · exact ⟨l3, by rw [hZ0]; exact c3.fl.lt.1⟩
    · exact ⟨l4, by rw [hZ0]; exact c3.fl.lt.2⟩
    · rw [hZ0]; exact l5 b hb)
  have HLG : Hid (∀ g, v'.ownBlock = some g → g < W0.heap.size) := hid (fun g hg => (l5 g hg).2)
  have HL' := hid (show w.heap.size + 1 + 1 + 1 ≤ Z ∧ W0.heap.size = Z from ⟨by have := l1; have := c3.bf.lt; omega, hZ0.symm⟩)
  obtain ⟨q, hq⟩ : ∃ q : CollAt, q = ⟨w.heap.size + 1, 36, 3, 1, w.heap.size + 1 + 1, 22, 24, 16, Z⟩ := ⟨_, rfl⟩
  have HQ := hid hq
  have HB0 := hid hB0
  have HI0 := hid (CollI.start (q := q) f1B (f2B ms) (by rw [hq]; exact c1') (by rw [hq]; exact c2') c0'.cell (by rw [hq]; exact Nat.le_of_eq hZ0) hB0)
  have HC3 := hid c3
  clear hZ0 hB0 b0 b1 b2 d0 d1 c0' c1' c2' k0 c3 l1 l2 l3 l4 l5 l6 hq
  refine wpIn_rangeW rfl h1 (gf := 46) (lb := #[.pointer (some ⟨Bl, 0, none⟩), .pointer (some ⟨Bf, 0, none⟩)]) rfl trivial (enters_of Try.func46 (by kernel_rfl) rfl)
    (lacks_seq (n - 1) (by omega) Bf Bl B' C' v' zs ms HBIG.out W0 HC3.out HLG.out) (fun h k => h.trans k) (fun W l o o' hl hW hc => ⟨by simp, fun b hb => World.putObj_heap_other (fun e' => by have := HLK.out b hb; have := HL'.out; omega)⟩)
    (fun xs => static_own _) (fun xs => static_own _) (Below.refl _ _) (fun x => rfl)
    (CollI q f1B (f2B ms) w w.heap.size m) (CollX q f1B (f2B ms) w m) (collI_own _ _ _ _ _ _ HB0.out.size) (fun c => collX_own _ _ _ _ _ c HB0.out.size) HI0.out
    (fun x a' W => AxB q ms (fun N => { tmps := #[.pointer (some ⟨B, 0, none⟩), v, .int .i64 m, undef, undef, .pointer (some ⟨w.heap.size, 0, none⟩), .slice none 0 0, .slice none 0 0, .pointer (some ⟨w.heap.size + 1, 0, none⟩), .pointer (some ⟨w.heap.size + 1 + 1, 0, none⟩), .func (.func 46) #[] #[.pointer (some ⟨Bl, 0, none⟩), .pointer (some ⟨Bf, 0, none⟩)], .int .i64 (x : Int), .pointer (some ⟨N, 0, none⟩), .pointer (some ⟨B, 0, none⟩), v, .func (.func 46) #[] #[.pointer (some ⟨Bl, 0, none⟩), .pointer (some ⟨Bf, 0, none⟩)], .func (.func 46) #[] #[.pointer (some ⟨Bl, 0, none⟩), .pointer (some ⟨Bf, 0, none⟩)], .bool false, .func (.func 46) #[] #[.pointer (some ⟨Bl, 0, none⟩), .pointer (some ⟨Bf, 0, none⟩)], .int .i64 (x : Int), markV (markAt ms x), undef, undef, undef, undef, undef, undef, undef, undef, undef, undef, undef, undef, undef, undef], defers := [] }) x a' W)
    (fun x a' => axB_own q ms _ x a') ?assign ?body ?done ?stop
  case assign =>
    intro l pre x W K hI hK
    have HI := hid hI
    obtain ⟨⟨⟨v1, v2, b1, b2, o1, o2, hs⟩, hm, hlen, hbase⟩, hB⟩ := hI
    have HB2 := hid b2
    have HZ := hid hbase
    have HO2 : Hid (∀ g, v2.ownBlock = some g → g < W.heap.size) := hid (fun g hg => by obtain ⟨-, o, ho, -⟩ := row_cells o2 hg; exact (Array.getElem?_eq_some_iff.1 ho).1)
    have HBZ : Hid (Z ≤ W.heap.size) := hid (by rw [HQ.out] at hbase; exact hbase)
    have HK := hid hK
    have MO := hid (MKO.out x)
    clear b1 b2 o1 o2 hs hm hlen hbase hB hK
    obtain ⟨W5, hW5⟩ : ∃ W', W' = (W.alloc (.cells #[.int .u8 0, .int .u8 0, .int .u8 0, .int .u8 0, .int .u8 0, .int .u8 0, .int .u8 0, .int .u8 0, .int .u8 0, .int .u8 0, .int .u8 0, .int .u8 0, .int .u8 0, .int .u8 0, .int .u8 0, .int .u8 0] 24)).setCells W.heap.size 0 (markL (markAt ms x)) := ⟨_, rfl⟩
    have hb0 : Blk (W.alloc (.cells #[.int .u8 0, .int .u8 0, .int .u8 0, .int .u8 0, .int .u8 0, .int .u8 0, .int .u8 0, .int .u8 0, .int .u8 0, .int .u8 0, .int .u8 0, .int .u8 0, .int .u8 0, .int .u8 0, .int .u8 0, .int .u8 0] 24)) W.heap.size 24 (markL z16) := Blk.new W 24 (markL z16)
    have HST : Hid ((Instr.storeAt 24 (.pointer (some ⟨W.heap.size, 0, none⟩)) (markV (markAt ms x))).run Try.prog (W.alloc (.cells #[.int .u8 0, .int .u8 0, .int .u8 0, .int .u8 0, .int .u8 0, .int .u8 0, .int .u8 0, .int .u8 0, .int .u8 0, .int .u8 0, .int .u8 0, .int .u8 0, .int .u8 0, .int .u8 0, .int .u8 0, .int .u8 0] 24)) = .ok () W5) := hid (by
      rw [hW5]
      exact store_mark MO.out (hb0.there 0 _ (by rw [markL_length, MO.out.len]; exact Nat.le_refl 16)))
    have BM5 : Hid (Blk W5 W.heap.size 24 (markL (markAt ms x))) := hid (by
      rw [hW5]
      exact row_set hb0 (by rw [markL_length, MO.out.len]; rfl))
    have K5 : Hid (Kp Nb W W5) := hid (by
      rw [hW5]
      exact Kp.setCells (fun h => absurd h (Nat.lt_irrefl _)) _ _ _ ((Kp.refl Nb W).alloc _))
    clear hW5 hb0
    gi_wp2_with (refine wpListIn_storeL rfl 24 (.tmp 12) (.tmp 20) rfl (p := ⟨W.heap.size, 0, none⟩) (by rfl) (v := markV (markAt ms x)) (by rfl) HST.out ?_)
    refine HK.out _ _ ⟨K5.out.size, fun k o _ hk _ => (K5.out.heap (Array.getElem?_eq_some_iff.1 hk).1 (fun h => h)).trans hk⟩ ⟨K5.out.size, fun b hb => K5.out.heap (by have := HLK.out b hb; have := HBZ.out; omega) (fun h => h)⟩ (HI.out.keptB K5.out) ?_
    exact ⟨W.heap.size, v2, HZ.out, rfl, BM5.out, (K5.out.heap HB2.out.lt (fun h => h)).trans HB2.out, fun e => absurd (HO2.out _ e) (Nat.lt_irrefl _)⟩
  case body =>
    rintro l pre x a' W hI ⟨N, u, hN, rfl, hNB, hNU, hne⟩ hlt
    have HI := hid hI
    obtain ⟨⟨⟨v1, v2, b1, b2, o1, o2, hs⟩, hm, hlen, hbase⟩, hB⟩ := hI
    obtain ⟨p1, q1, rfl⟩ := own_shape o1
    have hu : u = v2 := by
      have e := (show W.heap[q.B2]? = _ from hNU).symm.trans (show W.heap[q.B2]? = _ from b2)
      injection e with e; injection e with e; simpa using e
    subst hu
    have hq := HQ.out
    have c1 : W.cell? ⟨w.heap.size + 1, 0, none⟩ = some (.slice p1 pre.length q1) := by rw [hq] at b1; exact b1.cell
    have HC := hid b1
    have HC2 := hid b2
    have HO1 := hid o1
    have HO2 := hid o2
    have HS := hid hs
    have HL := hid hlen
    have HBS := hid hbase
    have HBW := hid hB
    have HNB := hid hNB
    have HNE := hid hne
    have MO := hid (MKO.out x)
    have hlt' : pre.length ≤ 100000 := by have := HBIG.out; omega
    clear hq b1 b2 o1 o2 hs hlen hbase hB hNB hNU hne hN
    by_cases hge : m ≤ (pre.length : Int)
    · gi_wp2
      exact ⟨KeepsFrom.refl _ _, ⟨Nat.le_refl _, fun _ _ => rfl⟩, ⟨rfl, pre, _, rfl, ⟨_, u, HC.out, HC2.out, HO1.out, HO2.out, HS.out⟩, by have := HL.out; omega⟩, HBW.out⟩
    · gi_wp2
      have hmx : Try.prog.follows .mixedOrders = true := by kernel_rfl
      have b1 := HC.out
      have b2 := HC2.out
      have o1 := HO1.out
      have o2 := HO2.out
      have hbs := HBS.out
      have hne := HNE.out
      have hq := HQ.out
      have hL := HL.out
      rw [hq] at b1 b2 o1 o2 hbs
      dsimp only at hbs
      refine collB_region (q := ⟨w.heap.size + 1, 36, 3, 1, w.heap.size + 1 + 1, 22, 24, 16, Z⟩) (ms := ms) (pre := pre) (x := x) (y1 := .int .i64 (x : Int)) (xa := .pointer (some ⟨N, 0, none⟩)) (x2 := markV (markAt ms x)) (N := 35) (tb1 := 8) (tx1 := 11) (tb2 := 9) (tx2 := 12) (d := 25) (src := fun w' => Blk w' N 24 (markL (markAt ms x))) hmx (by kernel_rfl) rfl b1 b2 o1 o2 HS.out
        (mk_ok (fun w u h => fiB_load w _ u h) (fun w => fiB_make w (x : Int)) (fun w g n c u h hf => fiB_store w _ g n c u h hf) Try.underlying36 fiB_info rfl (by omega) (by unfold maxLen; omega) (by simp) (by simp [f1B, Value.oneCell']) rfl (by simp) rfl ⟨rfl, rfl, rfl⟩ rfl ⟨rfl, rfl, rfl⟩ rfl ⟨rfl, rfl, rfl⟩ rfl ⟨rfl, rfl, rfl⟩ rfl ⟨rfl, rfl, rfl⟩ (by kernel_rfl) (by kernel_rfl) (by kernel_rfl) (by kernel_rfl) (by decide) (by decide) (by decide) (by decide))
        (mkB_ok (Tf := 24) (fun w u h => fmB_load w _ u h) (fun w => fmB_make w (markAt ms x) MO.out.len) (fun w g n c u h hf => fmB_store w _ g n c u h hf) Try.underlying22 fmB_info rfl (by omega) (by unfold maxLen; omega) (by simp) (markL_one' _) (by rw [markL_length]; exact MO.out.len) (by simp) rfl ⟨rfl, rfl, rfl⟩ rfl ⟨rfl, rfl, rfl⟩ (fun w' h => load_mark MO.out (range_of h)) rfl ⟨rfl, rfl, rfl⟩ rfl ⟨rfl, rfl, rfl⟩ rfl ⟨rfl, rfl, rfl⟩ (by kernel_rfl) (by kernel_rfl) (by kernel_rfl) (by kernel_rfl) (by decide) (by decide) (by decide) (by decide))
        (fun w' hm => (hm.same N HNB.out.lt ?ns).trans HNB.out) rfl rfl rfl rfl rfl (by decide) (by decide) (by simp) (by simp) (by simp) hbs ?_
      case ns =>
        rintro (e | e | e | e)
        · have h := (show W.heap[N]? = _ from HNB.out).symm.trans (show W.heap[N]? = _ from e ▸ b1)
          injection h with h; injection h with _ h; cases h
        · have h := (show W.heap[N]? = _ from HNB.out).symm.trans (show W.heap[N]? = _ from e ▸ b2)
          injection h with h; injection h with _ h; cases h
        · obtain ⟨cs', fr', h⟩ := row_tyB o1 e
          have h := (show W.heap[N]? = _ from HNB.out).symm.trans h
          injection h with h; injection h with _ h; cases h
        · exact hne e
      intro a' W' hc hmv
      have kb : KpB (LkS Bf Bl B' C' v') W W' := hmv.kpB (H := w.heap.size + 1 + 1 + 1) o1 o2 HLK.out (by dsimp only; omega) (by dsimp only; omega) hbs
      rw [← hq] at hc
      have hmv2 : Moves (CollS q) W W' := hmv.mono (fun b _ h => by rw [hq]; exact S0B.coll o1 o2 b h)
      have hHL := HL'.out
      exact ⟨hmv.keepsFrom _, kb, HI.out.next (by omega) hc hmv2 (by rw [hq]; dsimp only; omega) (by rw [hq]; dsimp only; omega) (by rw [hq]; dsimp only; omega) (by rw [hq]; dsimp only; omega) (by rw [hq]; dsimp only; omega) (by rw [hq]; dsimp only; omega)⟩
  case done =>
    rintro D ys W hD hS ⟨⟨⟨v1, v2, b1, b2, o1, o2, hs⟩, hm, hlen, hbase⟩, hB⟩ hK
    have HLE : Hid (ys = (lackT zs ms ms.length).take m.toNat) := hid (by rw [← hS, List.take_of_length_le hlen])
    have hq := HQ.out
    have hHL := HL'.out
    rw [hq] at b1 b2 o1 o2
    obtain ⟨p1, q1, rfl⟩ := own_shape o1
    obtain ⟨p2, q2, rfl⟩ := own_shape o2
    have c1 := b1.cell
    have c2 := b2.cell
    have HO1 := hid (ownsRow_le (base' := w.heap.size) o1 (by dsimp only; omega))
    have HO2 := hid (ownsRow_le (base' := w.heap.size) o2 (by dsimp only; omega))
    have HBW := hid hB
    have HD := hid hD
    have HK := hid hK
    clear hq b1 b2 o1 o2 hs hB hD hK hlen hHL hS
    gi_wp2
    gi_region
    all_goals
      gi_wp2
      refine ⟨by simp, .inl ⟨_, _, rfl, run_takeDeferred HK.out, ?_⟩⟩
      refine ⟨.tuple #[.slice p1 ys.length q1, .slice p2 ys.length q2], by simp [results, Try.f12, go_sem], _, _, ys, rfl, HLE.out, ?_⟩
      exact ⟨ownsRow_putObj (W := W) HO1.out _ HK.out rfl, ownsRow_putObj (W := W) HO2.out _ HK.out rfl, HBW.out.drew.trans (belowK_b (w := w) (Nat.le_refl _) W.drew D _ _ (by have := HL'.out; have := HD.out; omega) HK.out rfl rfl)⟩
  case stop =>
    rintro D c pre W hD hS ⟨⟨rfl, ys, x, rfl, ⟨v1, v2, b1, b2, o1, o2, hs⟩, hlen⟩, hB⟩ hK
    have HLE : Hid (ys = (lackT zs ms ms.length).take m.toNat) := hid (by
      obtain ⟨k, hk, e⟩ := hS
      rw [← hlen]
      exact lackT_pre e hk)
    have hq := HQ.out
    have hHL := HL'.out
    rw [hq] at b1 b2 o1 o2
    obtain ⟨p1, q1, rfl⟩ := own_shape o1
    obtain ⟨p2, q2, rfl⟩ := own_shape o2
    have c1 := b1.cell
    have c2 := b2.cell
    have HO1 := hid (ownsRow_le (base' := w.heap.size) o1 (by dsimp only; omega))
    have HO2 := hid (ownsRow_le (base' := w.heap.size) o2 (by dsimp only; omega))
    have HBW := hid hB
    have HD := hid hD
    have HK := hid hK
    clear hq b1 b2 o1 o2 hs hB hD hK hlen hHL hS
    gi_wp2
    gi_region
    all_goals
      gi_wp2
      refine ⟨by simp, .inl ⟨_, _, rfl, run_takeDeferred HK.out, ?_⟩⟩
      refine ⟨.tuple #[.slice p1 ys.length q1, .slice p2 ys.length q2], by simp [results, Try.f12, go_sem], _, _, ys, rfl, HLE.out, ?_⟩
      exact ⟨ownsRow_putObj (W := W) HO1.out _ HK.out rfl, ownsRow_putObj (W := W) HO2.out _ HK.out rfl, HBW.out.drew.trans (belowK_b (w := w) (Nat.le_refl _) W.drew D _ _ (by have := HL'.out; have := HD.out; omega) HK.out rfl rfl)⟩

end Go.Proofs.Ytpgiinogfmhfiaa

namespace Go.Proofs.Ytpgiinogfmhfiaa
open Go.RowKit

def hasB (zs : List Int) (p : Nat) : Bool := (zs[p / 8]?.getD 0).toNat.testBit (p % 8)
theorem or8_nat (a b : Int) (ha : 0 ≤ a ∧ a < 256) (hb : 0 ≤ b ∧ b < 256) : bits .or .u8 a b = ((a.toNat ||| b.toNat : Nat) : Int) := by
  have hA : (BitVec.ofInt 8 a).toNat = a.toNat := by rw [BitVec.toNat_ofInt]; omega
  have hB : (BitVec.ofInt 8 b).toNat = b.toNat := by rw [BitVec.toNat_ofInt]; omega
  have h1 : bits .or .u8 a b = IntKind.u8.wrap (((BitVec.ofInt 8 a ||| BitVec.ofInt 8 b).toNat : Nat) : Int) := rfl
  have h2 : (BitVec.ofInt 8 a ||| BitVec.ofInt 8 b).toNat = a.toNat ||| b.toNat := by rw [BitVec.toNat_or, hA, hB]
  have h3 : a.toNat ||| b.toNat < 2 ^ 8 := Nat.or_lt_two_pow (by omega) (by omega)
  rw [h1, h2, IntKind.wrap_u8]
  omega
theorem bitB_has (zs : List Int) (p : Nat) (hz : IsBytes zs) : bitB zs p = if hasB zs p then 1 else 0 := by
  unfold bitB hasB
  have h := hz (p / 8)
  obtain ⟨a, ha⟩ : ∃ a : Nat, zs[p / 8]?.getD 0 = (a : Int) := ⟨(zs[p / 8]?.getD 0).toNat, by omega⟩
  rw [ha, Int.toNat_natCast, Nat.testBit_eq_decide_div_mod_eq]
  have e : ((a : Int) / 2 ^ (p % 8) % 2) = ((a / 2 ^ (p % 8) % 2 : Nat) : Int) := by simp
  rw [e]
  have := Nat.mod_lt (a / 2 ^ (p % 8)) (show 0 < 2 by decide)
  by_cases h1 : a / 2 ^ (p % 8) % 2 = 1
  · rw [h1]; simp
  · have h0 : a / 2 ^ (p % 8) % 2 = 0 := by omega
    rw [h0]; simp
theorem setB_bytes {zs : List Int} (hz : IsBytes zs) (p : Nat) : IsBytes (setB zs p) := fun j => by
  unfold setB
  by_cases e : p / 8 = j
  · subst e
    by_cases hl : p / 8 < zs.length
    · rw [List.getElem?_set_self hl]; exact or8_rng _ _
    · rw [List.getElem?_set_self' ]
      have : zs[p / 8]? = none := List.getElem?_eq_none (by omega)
      rw [this]
      exact ⟨by simp, by simp⟩
  · rw [List.getElem?_set_ne e]; exact hz j
theorem has_set {zs : List Int} (hz : IsBytes zs) (p q : Nat) (hp : p < 8 * zs.length) : hasB (setB zs p) q = (hasB zs q || q == p) := by
  unfold hasB setB
  by_cases e : p / 8 = q / 8
  · have hl : p / 8 < zs.length := by omega
    rw [← e, List.getElem?_set_self hl, Option.getD_some]
    have hpw := pow8_rng (p % 8) (Nat.mod_lt _ (by decide))
    rw [or8_nat _ _ (hz _) (by omega), Int.toNat_natCast, Nat.testBit_or]
    congr 1
    have e2 : ((2 : Int) ^ (p % 8)).toNat = 2 ^ (p % 8) := by
      have : ((2 : Int) ^ (p % 8)) = ((2 ^ (p % 8) : Nat) : Int) := by simp
      rw [this, Int.toNat_natCast]
    rw [e2, Nat.testBit_two_pow]
    by_cases h : q = p
    · subst h; simp
    · have : ¬ p % 8 = q % 8 := fun h' => h (by omega)
      simp [h, this]
  · rw [List.getElem?_set_ne e]
    have h : q ≠ p := fun h => e (by rw [h])
    simp [h]
theorem addK_bytes {zs : List Int} (hz : IsBytes zs) (m : List Int) (s : Int) : ∀ k, IsBytes (addK zs m s k)
  | 0 => hz
  | k + 1 => by rw [addK_succ]; exact setB_bytes (addK_bytes hz m s k) _
theorem has_addK {zs : List Int} (hz : IsBytes zs) (m : List Int) (h0 : 0 < zs.length) (q : Nat) : ∀ k, hasB (addK zs m ((8 * zs.length : Nat) : Int) k) q = (hasB zs q || (List.range k).any fun i => q == plb ((8 * zs.length : Nat) : Int) m i)
  | 0 => by simp [addK]
  | k + 1 => by
    have hp := plb_lt ((8 * zs.length : Nat) : Int) m k (by omega)
    rw [addK_succ, has_set (addK_bytes hz m _ k) _ q (by rw [addK_length]; omega), has_addK hz m h0 q k, List.range_succ, List.any_append, Bool.or_assoc]
    simp
theorem addL_bytes {zs : List Int} (hz : IsBytes zs) (m : List Int) : IsBytes (addL zs m) := addK_bytes hz m _ 4
/-- A mark's bits. -/
def plcB (s : Int) (m : List Int) (q : Nat) : Bool := (List.range 4).any fun i => q == plb s m i
theorem has_addL {zs : List Int} (hz : IsBytes zs) (m : List Int) (h0 : 0 < zs.length) (q : Nat) : hasB (addL zs m) q = (hasB zs q || plcB ((8 * zs.length : Nat) : Int) m q) := has_addK hz m h0 q 4
theorem mayB_iff {zs : List Int} (hz : IsBytes zs) (m : List Int) : mayB zs m = true ↔ ∀ i, i < 4 → hasB zs (plb ((8 * zs.length : Nat) : Int) m i) = true := by
  unfold mayB
  rw [List.all_eq_true]
  constructor
  · intro h i hi
    have h1 := h i (List.mem_range.2 hi)
    rw [bitB_has zs _ hz] at h1
    cases hb : hasB zs (plb ((8 * zs.length : Nat) : Int) m i) with
    | true => rfl
    | false => rw [hb] at h1; exact absurd h1 (by decide)
  · intro h i hi
    rw [bitB_has zs _ hz, h i (List.mem_range.1 hi)]
    rfl
theorem may_add {zs : List Int} (hz : IsBytes zs) (m : List Int) (h0 : 0 < zs.length) : mayB (addL zs m) m = true := by
  rw [mayB_iff (addL_bytes hz m)]
  intro i hi
  rw [addL_length, has_addL hz m h0]
  have : plcB ((8 * zs.length : Nat) : Int) m (plb ((8 * zs.length : Nat) : Int) m i) = true := by
    unfold plcB
    rw [List.any_eq_true]
    exact ⟨i, List.mem_range.2 hi, by simp⟩
  rw [this, Bool.or_true]
theorem has_zero (t q : Nat) : hasB (zerosL t) q = false := by
  unfold hasB zerosL
  have : (List.replicate t (0 : Int))[q / 8]?.getD 0 = 0 := by
    rw [List.getElem?_replicate]; split <;> rfl
  rw [this]
  exact Nat.zero_testBit _
theorem zerosL_bytes (t : Nat) : IsBytes (zerosL t) := IsBytes.zeros t
theorem may_zero (t : Nat) (m : List Int) : mayB (zerosL t) m = false := by
  cases h : mayB (zerosL t) m with
  | false => rfl
  | true =>
    have h1 := (mayB_iff (zerosL_bytes t) m).1 h 0 (by decide)
    rw [has_zero] at h1
    cases h1
theorem pop_pos : ∀ n : Fin 256, n.val ≠ 0 → 0 < Lib.onesCount n.val := by decide +kernel
theorem fold_mono (f : Int → Nat) : ∀ (l : List Int) (a : Nat), a ≤ l.foldl (fun a z => a + f z) a
  | [], _ => Nat.le_refl _
  | _ :: r, _ => Nat.le_trans (Nat.le_add_right _ _) (fold_mono f r _)
theorem fold_split (f : Int → Nat) (l : List Int) (k : Nat) : l.foldl (fun a z => a + f z) 0 = (l.drop k).foldl (fun a z => a + f z) ((l.take k).foldl (fun a z => a + f z) 0) := by
  rw [← List.foldl_append, List.take_append_drop]
theorem cntB_ge (zs : List Int) (k : Nat) (hk : k < zs.length) : Lib.onesCount (zs[k]?.getD 0).toNat ≤ cntB zs := by
  have e : cntB (zs.take (k + 1)) ≤ cntB zs := by
    unfold cntB
    rw [fold_split (fun z => Lib.onesCount z.toNat) zs (k + 1)]
    exact fold_mono (fun z => Lib.onesCount z.toNat) _ _
  refine Nat.le_trans ?_ e
  rw [cntB_take zs k hk]
  exact Nat.le_add_left _ _
theorem cnt_pos {zs : List Int} (hz : IsBytes zs) (p : Nat) (h : hasB zs p = true) : 0 < cntB zs := by
  have hl : p / 8 < zs.length := by
    refine Nat.lt_of_not_le fun hle => ?_
    unfold hasB at h
    rw [List.getElem?_eq_none hle] at h
    simp at h
  refine Nat.lt_of_lt_of_le ?_ (cntB_ge zs (p / 8) hl)
  have hr := hz (p / 8)
  refine pop_pos ⟨(zs[p / 8]?.getD 0).toNat, by omega⟩ (fun e => ?_)
  dsimp only at e
  unfold hasB at h
  rw [e, Nat.zero_testBit] at h
  cases h

end Go.Proofs.Ytpgiinogfmhfiaa

namespace Go.Proofs.Ytpgiinogfmhfiaa
open Go.RowKit

theorem wpList_load_onL {P : Program} {d : TypeDesc} {ops : Array Oper} {rest : List Oper} {op : Oper} {a : Act} {w : World} {Q : Exit → Act → World → Prop} (hw : Region.wanted op (yielded ops a.tmps) = true) (ty : TypeId) (x : Operand) (ho : op.op = .load ty x)
    (b o : Nat) (hx : a.eval x = .pointer (some ⟨b, o, none⟩)) (cs : List Value) (hc : w.rangeAt b o cs) (hu : P.underlying ty = some d) (hd : d.isRow = true) (hi : (P.info? ty).map (·.size) = some cs.length)
    (h : wpList P ops Q rest (a.put op.dst (.agg cs.toArray)) w) : wpList P ops Q (op :: rest) a w :=
  wpList_step fun K hK => by rw [if_pos hw]; exact wp_load_mid ty x ho b o hx cs d hc hu hd hi (hK _ _ h)
theorem okA1L : MarkOk mA := ⟨rfl, isBytes_of (by decide)⟩
theorem okB1L : MarkOk mB := ⟨rfl, isBytes_of (by decide)⟩
theorem lacks_rows (B C : Nat) (v : Value) (zs : List Int) (ms : List (List Int)) (m : Int) (w : World) (hf : FlAt w B C zs) (hv : MkSl w v ms) (hbig : ms.length ≤ 100000) :
    Calls Try.prog 12 #[.pointer (some ⟨B, 0, none⟩), v, .int .i64 m] w fun e w' => ∃ v1 v2 xs, e = .returned (.tuple #[v1, v2]) ∧ xs = (lackT zs ms ms.length).take m.toNat ∧ RowsSl f1B 0 1 w' v1 xs ∧ RowsSl (f2B ms) ms.length 16 w' v2 xs ∧ Kp Nb w w' := by
  have hl := fun q => (hv.1 q).len
  refine (callsIn_wide.1 (llacks_in 3 (Nat.le_refl _) B C v zs ms m w hf hv hbig)).mono fun _ _ ⟨v1, v2, xs, he, h1, h3, h4, hB⟩ => ?_
  exact ⟨v1, v2, xs, he, h1, rows_owned h3 (fun _ _ => rfl), rows_owned h4 (fun q _ => by rw [markL_length]; exact hl q), Kp.of_below hB⟩
theorem lack_two (zs a b : List Int) (ha : mayB zs a = false) (hb : mayB zs b = false) : lackT zs [a, b] 2 = [0, 1] := by
  rw [lackT_yes zs [a, b] 1 hb, lackT_yes zs [a, b] 0 ha]
  rfl

set_option maxRecDepth 100000 in
set_option maxHeartbeats 4000000 in
theorem lfirst_any (w : World) : Calls Try.prog 7 #[] w fun e w' => e = .returned (.bool true) ∧ Kp Nb w w' := by
  have h1 := build_mA
  obtain ⟨ma, hma⟩ : ∃ m, mA = m := ⟨_, rfl⟩
  obtain ⟨mb, hmb⟩ : ∃ m, mB = m := ⟨_, rfl⟩
  have OMA : Hid (MarkOk ma) := hid (by rw [← hma]; exact okA1L)
  have OMB : Hid (MarkOk mb) := hid (by rw [← hmb]; exact okB1L)
  have HMA := hid hma
  have M1 := hid (mark_infoL ma OMA.out.len)
  have HBA := hid build_mA
  have HBB2 := hid build_mB
  rw [hma] at HBA
  rw [hmb] at HBB2
  have CN8 : Hid (∀ w, Calls Try.prog 8 #[.int .i64 64] w fun e w' => ∃ B C, e = .returned (.tuple #[.pointer (some ⟨B, 0, none⟩), .int .i64 0]) ∧ FlAt w' B C (zerosL 8) ∧ w.heap.size ≤ B ∧ w.heap.size ≤ C ∧ Kp Nb w w') := hid (fun w => lnew_yes 8 w (by decide) (by decide))
  have CN60 : Hid (∀ w, Calls Try.prog 8 #[.int .i64 60] w fun e w' => e = .returned (.tuple #[.pointer none, .int .i64 2]) ∧ w = w') := hid (fun w => lnew_no 60 w (by decide) (by decide) (by decide))
  obtain ⟨Z, hZ⟩ : ∃ z, zerosL 8 = z := ⟨_, rfl⟩
  rw [hZ] at CN8
  have M0 : Hid (mayB Z ma = false) := hid (by rw [← hZ]; exact may_zero 8 ma)
  have ML : Hid (lackT Z [mb, ma] 2 = [0, 1]) := hid (by rw [← hZ]; exact lack_two _ _ _ (may_zero 8 mb) (may_zero 8 ma))
  have ZB : Hid (IsBytes Z) := hid (by rw [← hZ]; exact zerosL_bytes 8)
  have ZL : Hid (Z.length = 8) := hid (by rw [← hZ]; exact List.length_replicate)
  obtain ⟨Y, hY⟩ : ∃ z, addL Z ma = z := ⟨_, rfl⟩
  have MY : Hid (mayB Y ma = true) := hid (by rw [← hY]; exact may_add ZB.out ma (by rw [ZL.out]; decide))
  have YL : Hid (Y.length = 8) := hid (by rw [← hY, addL_length]; exact ZL.out)
  have YB : Hid (IsBytes Y) := hid (by rw [← hY]; exact addL_bytes ZB.out ma)
  obtain ⟨cn, hcn⟩ : ∃ c, cntB Y = c := ⟨_, rfl⟩
  have CNP : Hid (0 < cn ∧ cn ≤ 64) := hid (by
    have hp := (mayB_iff YB.out ma).1 MY.out 0 (by decide)
    have h3 := cntB_le Y YB.out Y.length (Nat.le_refl _)
    rw [List.take_length, YL.out] at h3
    rw [← hcn]
    exact ⟨cnt_pos YB.out _ hp, by omega⟩)
  have HY := hid hY
  have HCN := hid hcn
  clear hZ hY hcn hma hmb
  go_enter Try.func7, Try.ntmps7
  go_wp2_with fail
  refine (CN8.out _).mono ?_
  rintro e w1 ⟨B, C, rfl, f1, l1, l2, k1⟩
  have F1 := hid f1
  have K1 := hid k1
  have LB := hid (show w.heap.size ≤ C from l2)
  clear f1 k1 l1 l2 CN8
  go_wp2_with fail
  refine (CN60.out _).mono ?_
  rintro e w2 ⟨rfl, rfl⟩
  obtain ⟨N, hN⟩ : ∃ N, w1.heap.size = N := ⟨_, rfl⟩
  obtain ⟨W3, hW3⟩ : ∃ W, W = w1.alloc (.cells (markL mA).toArray 24) := ⟨_, rfl⟩
  have k3 : Kp Nb w1 W3 := by rw [hW3]; exact (Kp.refl Nb w1).alloc _
  have D3 : Hid (Blk W3 N 24 (markL ma)) := hid (by rw [← HMA.out, hW3, ← hN]; exact Blk.new w1 _ _)
  have F3 := hid (F1.out.kept k3 (fun h => h) (fun h => h))
  have K3 := hid (K1.out.trans k3 (fun _ _ h => h))
  clear k3 F1 K1 CN60
  go_upto_region 4 with fail
  rw [show w1.alloc (.cells #[.int .u8 1, .int .u8 0, .int .u8 0, .int .u8 0, .int .u8 0, .int .u8 0, .int .u8 0, .int .u8 0, .int .u8 0, .int .u8 0, .int .u8 0, .int .u8 0, .int .u8 0, .int .u8 0, .int .u8 0, .int .u8 0] 24) = W3 from hW3.symm]
  clear hW3 hN h1
  have CM : Hid (∀ w', FlAt w' B C Z → Calls Try.prog 17 #[.pointer (some ⟨B, 0, none⟩), markV ma] w' fun e w'' => e = .returned (.bool false) ∧ Kp Nb w' w'') := hid (fun w' h => by
    have h2 := lmay_any B C Z ma w' h OMA.out
    rw [M0.out] at h2
    exact h2)
  go_wp2_with (refine wpList_load_mid (by rfl) 24 (.tmp 5) (by rfl) N 0 (by rfl) (markL ma) _ (range_of D3.out) under_mark rfl M1.out ?_)
  refine (CM.out _ F3.out).mono ?_
  rintro e w4 ⟨rfl, k4⟩
  have D4 := hid (D3.out.kept k4 (fun h => h))
  have F4 := hid (F3.out.kept k4 (fun h => h) (fun h => h))
  have K4 := hid (K3.out.trans k4 (fun _ _ h => h))
  clear k4 D3 F3 K3 CM
  obtain ⟨W5, hW5⟩ : ∃ W, W = w4.alloc (.cells (markL mb ++ markL ma).toArray 24 (0, 0)) := ⟨_, rfl⟩
  have HM2 := hid (make_two mb ma OMB.out.len OMA.out.len w4)
  rw [← hW5] at HM2
  have k5 : Kp Nb w4 W5 := by rw [hW5]; exact (Kp.refl Nb w4).alloc _
  have S5 : Hid (MkSl W5 (.slice (some ⟨w4.heap.size, 0, none⟩) 2 2) [mb, ma]) := hid (mkSl_two OMB.out OMA.out (by rw [hW5]; exact Blk.new _ _ _))
  have D5 := hid (D4.out.kept k5 (fun h => h))
  have F5 := hid (F4.out.kept k5 (fun h => h) (fun h => h))
  have K5 := hid (K4.out.trans k5 (fun _ _ h => h))
  clear k5 hW5
  go_wp2_with (first
    | (refine wpList_load_mid (by rfl) 24 (.tmp 5) (by rfl) N 0 (by rfl) (markL ma) _ (range_of D4.out) under_mark rfl M1.out ?_)
    | (refine wpList_val (by rfl) _ _ (exec_build rfl (qs := #[(0, .int .u8 2)]) (by simp [Act.eval, Act.put]) (HBB2.out _)) ?_)
    | (refine wpList_val (by rfl) _ _ (exec_buildSlice rfl (qs := #[(0, markV mb), (1, markV ma)]) (by simp [Act.eval, Act.put]) HM2.out) ?_))
  refine (lacks_rows B C _ Z [mb, ma] 9 W5 F5.out S5.out (by simp)).mono ?_
  rintro e w6 ⟨v1, v2, xs, rfl, hx, r1, r2, k6⟩
  have hxl : xs = [0, 1] := by
    rw [hx, show ([mb, ma] : List (List Int)).length = 2 from rfl, ML.out]
    rfl
  subst hxl
  obtain ⟨y1, d1, rfl⟩ := r1.shape
  obtain ⟨y2, d2, rfl⟩ := r2.shape
  have D6 := hid (D5.out.kept k6 (fun h => h))
  have F6 := hid (F5.out.kept k6 (fun h => h) (fun h => h))
  have K6 := hid (K5.out.trans k6 (fun _ _ h => h))
  clear hx r1 r2 k6 D5 F5 K5 S5 HM2 D4 F4 K4
  have CA : Hid (Calls Try.prog 10 #[.pointer (some ⟨B, 0, none⟩), markV ma] w6 fun e w' => e = .returned (.tuple #[]) ∧ FlAt w' B C Y ∧ Kp (Jb C) w6 w') := hid (by
    have h := ladd_any B C Z ma w6 F6.out OMA.out
    rw [HY.out] at h
    exact h)
  have NC : Hid (N ≠ C) := hid (fun e => by
    obtain ⟨cap, rest, -, h2, -⟩ := F6.out.at'
    have h3 := (show w6.heap[N]? = _ from D6.out).symm.trans (show w6.heap[N]? = _ from e ▸ h2)
    injection h3 with h3
    injection h3 with _ h3
    cases h3)
  go_upto_region 6 with fail
  go_wp2_with (refine wpList_load_mid (by rfl) 24 (.tmp 5) (by rfl) N 0 (by rfl) (markL ma) _ (range_of D6.out) under_mark rfl M1.out ?_)
  refine CA.out.mono ?_
  rintro e w7 ⟨rfl, f7, k7⟩
  have D7 := hid (D6.out.kept k7 (fun h => NC.out h))
  have F7 := hid f7
  have K7 := hid (K6.out.trans k7 (fun i hi h => by have h' : i = C := h; have := LB.out; omega))
  clear f7 k7 D6 F6 K6 CA
  have CM7 : Hid (Calls Try.prog 17 #[.pointer (some ⟨B, 0, none⟩), markV ma] w7 fun e w'' => e = .returned (.bool true) ∧ Kp Nb w7 w'') := hid (by
    have h2 := lmay_any B C Y ma w7 F7.out OMA.out
    rw [MY.out] at h2
    exact h2)
  go_wp2_with (refine wpList_load_onL (by first | rfl | kernel_rfl) 24 (.tmp 5) (by rfl) N 0 (by rfl) (markL ma) (range_of D7.out) under_mark rfl M1.out ?_)
  refine CM7.out.mono ?_
  rintro e w8 ⟨rfl, k8⟩
  have F8 := hid (F7.out.kept k8 (fun h => h) (fun h => h))
  have K8 := hid (K7.out.trans k8 (fun _ _ h => h))
  clear k8 D7 F7 K7 CM7
  have CC8 : Hid (Calls Try.prog 16 #[.pointer (some ⟨B, 0, none⟩)] w8 fun e w' => e = .returned (.int .i64 (cn : Int)) ∧ w8 = w') := hid (by
    have h := lcount_any B C Y w8 F8.out
    rw [HCN.out] at h
    exact h)
  have CB8 : Hid (Calls Try.prog 15 #[.pointer (some ⟨B, 0, none⟩)] w8 fun e w' => e = .returned (.int .i64 64) ∧ w8 = w') := hid (by
    have h := lbits_any B C Y w8 F8.out
    rw [YL.out] at h
    exact h)
  have hc0 := CNP.out.1
  have dc2 : decide (0 < cn) = true := decide_eq_true hc0
  have dc3 : decide ((0 : Int) < (cn : Int)) = true := decide_eq_true (by omega)
  have dc : decide ((cn : Int) > 0) = true := decide_eq_true (by have := CNP.out; omega)
  go_wp2_with fail
  refine CC8.out.mono ?_
  rintro e w9 ⟨rfl, rfl⟩
  go_wp2_with fail
  refine CB8.out.mono ?_
  rintro e w9 ⟨rfl, rfl⟩
  go_wp2
  go_ret
  exact ⟨rfl, K8.out⟩

end Go.Proofs.Ytpgiinogfmhfiaa

namespace Go.Proofs.Ytpgiinogfmhfiaa
open Go.RowKit

theorem FlAt.by' {w : World} {B C cap : Nat} {zs : List Int} (h : FlAt w B C zs) (hc : w.cell? ⟨B, 0, none⟩ = some (.slice (some ⟨C, 0, none⟩) zs.length cap)) : BySl Nb w (.slice (some ⟨C, 0, none⟩) zs.length cap) zs := by
  obtain ⟨cap', rest, h1, h2, h3, h4⟩ := h.at'
  have e := h1.cell 0
  rw [hc] at e
  simp at e
  subst e
  exact ⟨h.ok, .inr ⟨C, 0, cap, rfl, h3, h4, fun i hi => by
    rw [Nat.zero_add, h2.cell i, List.getElem?_append_left (by rw [List.length_map]; exact hi), List.getElem?_map, List.getElem?_eq_getElem hi]
    rfl, fun _ h => h⟩⟩
theorem exec_convertB {P : Program} {ev : Operand → Value} {o : Oper} {T U : TypeId} {x : Operand} {v r : Value} {w w' : World} (ho : o.op = .convert T U x) (hx : ev x = v) (hl : (convert T U v).run P w = .ok r w') : (execOp ev o).run P w = .ok (.value r) w' := by
  unfold execOp
  simp only [ho, hx, Sem.run_bind, Sem.run_pure, Result.andThen_ok, hl]
def bytL (zs : List Int) : List Int := numBytes zs.length ++ zs
set_option maxRecDepth 100000 in
set_option maxHeartbeats 2000000 in
theorem lput_any (B C P : Nat) (v : Value) (zs : List Int) (w : World) (h : FlAt w B C zs) (hp : PenAt w P v []) (hB : B ≠ P) (hv : v = .slice none 0 0) (hCP : C ≠ P) :
    Calls Try.prog 34 #[.pointer (some ⟨B, 0, none⟩), .pointer (some ⟨P, 0, none⟩)] w fun e w' => e = .returned (.tuple #[]) ∧ ∃ v', PenAt w' P v' (bytL zs) ∧ PenTo w w' P v v' := by
  subst hv
  obtain ⟨cap, rest, h1, h2, h3, h4⟩ := h.at'
  have c0 := h1.cell 0
  simp only [List.getElem?_cons_zero] at c0
  have HF := hid h
  have HP := hid hp
  have HS := hid h.size
  obtain ⟨n, hn⟩ : ∃ n, zs.length = n := ⟨_, rfl⟩
  have HN := hid hn
  rw [hn] at c0 HS h1
  have H1 := hid h1
  have hw : IntKind.u64.wrap (n : Int) = (n : Int) := by rw [IntKind.wrap_u64]; have := HS.out; omega
  have HE : Hid (bytL zs = numBytes n ++ zs) := hid (by unfold bytL; rw [hn])
  clear h hp h1 h2 h3 h4 hn
  go_enter Try.func34, Try.ntmps34
  go_wp2_with fail
  refine (pen_number P _ _ (n : Int) w HP.out (by omega) (by have := HS.out; omega) (by simp)).mono ?_
  rintro e w1 ⟨rfl, v1, p1, t1⟩
  have hlt := HF.out.lt
  have KN : Hid (∀ b, b < w.heap.size → b ≠ P → w1.heap[b]? = w.heap[b]?) := hid (fun b hb hne => t1.kp.heap hb (fun h => h.elim (fun h => hne h) (fun h => by simp [Value.ownBlock] at h)))
  have F1 : Hid (FlAt w1 B C zs) := hid (by
    obtain ⟨cap', rest', g1, g2, g3⟩ := HF.out.at'
    exact ⟨HF.out.ok, ⟨cap', rest', (KN.out B hlt.1 hB).trans g1, (KN.out C hlt.2 hCP).trans g2, g3⟩, HF.out.size, HF.out.ne⟩)
  have c1 : w1.cell? ⟨B, 0, none⟩ = some (.slice (some ⟨C, 0, none⟩) n cap) := by
    have := (show w1.heap[B]? = _ from (KN.out B hlt.1 hB).trans H1.out)
    exact (Blk.cell (show Blk w1 B _ _ from this) 0)
  have BY1 : Hid (BySl (Pb P v1) w1 (.slice (some ⟨C, 0, none⟩) n cap) zs) := hid (by
    have hb := F1.out.by' (cap := cap) (by rw [HN.out]; exact c1)
    rw [HN.out] at hb
    rcases hb.2 with ⟨⟨a, c, e⟩, h0⟩ | ⟨blk, off, c, e, g1, g2, g3, -⟩
    · exact ⟨hb.1, .inl ⟨⟨a, c, e⟩, h0⟩⟩
    · injection e with e1 e2 e3
      injection e1 with e1
      injection e1 with e1 e4 e5
      subst e1 e4 e3
      refine ⟨hb.1, .inr ⟨C, 0, cap, by rw [HN.out], g1, g2, g3, fun _ hx => ?_⟩⟩
      rcases hx with hx | hx
      · exact hCP hx
      · have := penTo_own t1 rfl C hx
        omega)
  have P1 := hid p1
  have T1 := hid t1
  have HEB : Hid ([] ++ numBytes (n : Int) ++ zs = bytL zs) := hid (by rw [HE.out]; rfl)
  have NL := hid (numBytes_length (n : Int) (by have := HS.out; omega))
  clear p1 t1 hlt
  go_wp2_with fail
  refine (pen_fixed (S := Pb P v1) P v1 _ _ zs w1 P1.out BY1.out (by have := NL.out; have := HS.out; have := HN.out; simp; omega)).mono ?_
  rintro e w2 ⟨rfl, v2, p2, t2⟩
  have P2 : Hid (PenAt w2 P v2 (bytL zs)) := hid (by rw [← HEB.out]; exact p2)
  have T2 := hid (T1.out.trans t2)
  clear p2 t2
  go_wp2
  go_end0
  exact ⟨rfl, v2, P2.out, T2.out⟩

set_option maxRecDepth 100000 in
set_option maxHeartbeats 2000000 in
theorem lbytes_any (B C : Nat) (zs : List Int) (w : World) (h : FlAt w B C zs) :
    Calls Try.prog 18 #[.pointer (some ⟨B, 0, none⟩)] w fun e w' => e = .returned (.string (st (bytL zs))) ∧ Kp Nb w w' := by
  obtain ⟨P, hP⟩ : ∃ P, w.heap.size = P := ⟨_, rfl⟩
  obtain ⟨W, hW⟩ : ∃ W, W = w.alloc (.cells #[.slice none 0 0] 73) := ⟨_, rfl⟩
  have P0 : Hid (PenAt W P (.slice none 0 0) []) := hid (by rw [hW, ← hP]; exact pen_new w)
  have k0 : Kp Nb w W := by rw [hW]; exact (Kp.refl Nb w).alloc _
  have K0 := hid k0
  have hlt := h.lt
  have CP := hid (lput_any B C P _ zs W (h.kept k0 (fun h => h) (fun h => h)) P0.out (by omega) rfl (by omega))
  have HB : Hid ((bytL zs).length ≤ 2000) := hid (by
    have := h.size
    have := numBytes_length (zs.length : Int) (by omega)
    unfold bytL
    rw [List.length_append]
    omega)
  have LP : Hid (w.heap.size ≤ P) := hid (Nat.le_of_eq hP)
  obtain ⟨S, hS⟩ : ∃ s, st (bytL zs) = s := ⟨_, rfl⟩
  have HST := hid hS
  rw [hS]
  clear h k0 hlt hS
  go_enter Try.func18, Try.ntmps18
  go_upto_region 2 with fail
  rw [show w.alloc (.cells #[.slice none 0 0] 73) = W from hW.symm]
  clear hW hP
  go_wp2_with fail
  refine CP.out.mono ?_
  rintro e w1 ⟨rfl, v1, p1, t1⟩
  have P1 := hid p1
  have K1 : Hid (Kp Nb w w1) := hid (K0.out.trans t1.kp (fun i hi h => h.elim (fun h => by have := LP.out; omega) (fun h => by simp [Value.ownBlock] at h)))
  clear p1 t1 CP P0
  go_wp2_with fail
  refine (pen_bytes P v1 (bytL zs) w1 P1.out (by have := HB.out; omega)).mono ?_
  rintro e w2 ⟨r, rfl, ow, k2⟩
  have BY : Hid (BySl Nb w2 r (bytL zs)) := hid (BySl.ofOwn ow P1.out.bytes (fun _ _ _ h => h))
  have hcv := conv_any BY.out
  have K2 := hid (K1.out.trans k2 (fun _ _ h => h))
  rw [HST.out] at hcv
  obtain ⟨y, d, rfl⟩ := own_shape ow
  clear ow k2
  go_wp2_with (refine wpList_val (by rfl) _ _ (exec_convertB rfl rfl hcv) ?_)
  go_ret
  exact ⟨rfl, K2.out⟩

end Go.Proofs.Ytpgiinogfmhfiaa

namespace Go.Proofs.Ytpgiinogfmhfiaa
open Go.RowKit

theorem eq_of_has {xs ys : List Int} (hx : IsBytes xs) (hy : IsBytes ys) (hl : xs.length = ys.length) (h : ∀ q, hasB xs q = hasB ys q) : xs = ys := by
  apply List.ext_getElem hl
  intro i h1 h2
  have e : (xs[i]?.getD 0).toNat = (ys[i]?.getD 0).toNat := by
    have rx := hx i
    have ry := hy i
    apply Nat.eq_of_testBit_eq
    intro j
    rcases Nat.lt_or_ge j 8 with hj | hj
    · have h3 := h (8 * i + j)
      unfold hasB at h3
      rw [show (8 * i + j) / 8 = i from by omega, show (8 * i + j) % 8 = j from by omega] at h3
      exact h3
    · have p8 : 2 ^ 8 ≤ 2 ^ j := Nat.pow_le_pow_right (by decide) hj
      rw [Nat.testBit_lt_two_pow (by omega), Nat.testBit_lt_two_pow (by omega)]
  have rx := hx i
  have ry := hy i
  rw [List.getElem?_eq_getElem h1, Option.getD_some] at e rx
  rw [List.getElem?_eq_getElem h2, Option.getD_some] at e ry
  omega
/-- Marks added one after the other. -/
def addsL (zs : List Int) (l : List (List Int)) : List Int := l.foldl addL zs
theorem addsL_snoc (zs : List Int) (l : List (List Int)) (m : List Int) : addsL zs (l ++ [m]) = addL (addsL zs l) m := by unfold addsL; rw [List.foldl_append]; rfl
theorem addsL_len (zs : List Int) : ∀ l : List (List Int), (addsL zs l).length = zs.length := fun l => by
  unfold addsL
  induction l generalizing zs with
  | nil => rfl
  | cons m r ih => rw [List.foldl_cons, ih, addL_length]
theorem addsL_bytes {zs : List Int} (hz : IsBytes zs) (l : List (List Int)) : IsBytes (addsL zs l) := by
  unfold addsL
  induction l generalizing zs with
  | nil => exact hz
  | cons m r ih => exact ih (addL_bytes hz m)
theorem has_adds {zs : List Int} (hz : IsBytes zs) (h0 : 0 < zs.length) (l : List (List Int)) (q : Nat) : hasB (addsL zs l) q = (hasB zs q || l.any fun m => plcB ((8 * zs.length : Nat) : Int) m q) := by
  unfold addsL
  induction l generalizing zs with
  | nil => simp
  | cons m r ih =>
    rw [List.foldl_cons, ih (addL_bytes hz m) (by rw [addL_length]; exact h0), addL_length, has_addL hz m h0, List.any_cons, Bool.or_assoc]
theorem adds_same {zs : List Int} (hz : IsBytes zs) (h0 : 0 < zs.length) (l k : List (List Int)) (h : ∀ m, m ∈ l ↔ m ∈ k) : addsL zs l = addsL zs k := by
  refine eq_of_has (addsL_bytes hz l) (addsL_bytes hz k) (by rw [addsL_len, addsL_len]) (fun q => ?_)
  rw [has_adds hz h0, has_adds hz h0]
  congr 1
  rw [Bool.eq_iff_iff, List.any_eq_true, List.any_eq_true]
  exact ⟨fun ⟨m, hm, e⟩ => ⟨m, (h m).1 hm, e⟩, fun ⟨m, hm, e⟩ => ⟨m, (h m).2 hm, e⟩⟩
/-- What the second one gets in k rounds: from the back, and the first one each time. -/
def backL (ms : List (List Int)) (k : Nat) : List (List Int) := (List.range k).flatMap fun i => [markAt ms (ms.length - 1 - i), markAt ms 0]
theorem backL_succ (ms : List (List Int)) (k : Nat) : backL ms (k + 1) = backL ms k ++ [markAt ms (ms.length - 1 - k)] ++ [markAt ms 0] := by
  unfold backL
  rw [List.range_succ, List.flatMap_append, List.flatMap_singleton]
  simp
theorem mem_backL (ms : List (List Int)) (m : List Int) : m ∈ ms ↔ m ∈ backL ms ms.length := by
  unfold backL
  rw [List.mem_flatMap]
  constructor
  · intro h
    obtain ⟨i, hi, rfl⟩ := List.mem_iff_getElem.1 h
    refine ⟨ms.length - 1 - i, List.mem_range.2 (by omega), ?_⟩
    have e : ms.length - 1 - (ms.length - 1 - i) = i := by omega
    rw [e]
    unfold markAt
    rw [List.getElem?_eq_getElem hi]
    simp
  · rintro ⟨i, hi, h⟩
    have hi' := List.mem_range.1 hi
    have key : ∀ j, j < ms.length → markAt ms j ∈ ms := fun j hj => by
      unfold markAt
      rw [List.getElem?_eq_getElem hj]
      exact List.getElem_mem hj
    rcases List.mem_cons.1 h with h | h
    · rw [h]; exact key _ (by omega)
    · rw [List.mem_singleton.1 h]; exact key 0 (by omega)
theorem order_same {zs : List Int} (hz : IsBytes zs) (h0 : 0 < zs.length) (ms : List (List Int)) : addsL zs ms = addsL zs (backL ms ms.length) := adds_same hz h0 _ _ (mem_backL ms)
-- how many bits
theorem fold_from (f : Int → Nat) : ∀ (l : List Int) (c : Nat), l.foldl (fun a z => a + f z) c = c + l.foldl (fun a z => a + f z) 0
  | [], _ => rfl
  | x :: r, c => by rw [List.foldl_cons, List.foldl_cons, fold_from f r (c + f x), fold_from f r (0 + f x)]; omega
theorem fold_set (f : Int → Nat) : ∀ (l : List Int) (i : Nat) (x : Int), i < l.length → (l.set i x).foldl (fun a z => a + f z) 0 + f (l[i]?.getD 0) = l.foldl (fun a z => a + f z) 0 + f x
  | [], i, x, h => absurd h (Nat.not_lt_zero _)
  | y :: r, 0, x, _ => by
    rw [List.set_cons_zero, List.foldl_cons, List.foldl_cons, fold_from f r (0 + f x), fold_from f r (0 + f y)]
    simp
    omega
  | y :: r, i + 1, x, h => by
    have ih := fold_set f r i x (by simpa using h)
    rw [List.set_cons_succ, List.foldl_cons, List.foldl_cons, fold_from f (r.set i x) (0 + f y), fold_from f r (0 + f y)]
    simp only [List.getElem?_cons_succ]
    omega
theorem pop_or : ∀ (n : Fin 256) (e : Fin 8), Lib.onesCount (n.val ||| 2 ^ e.val) ≤ Lib.onesCount n.val + 1 := by decide +kernel
theorem cnt_set {zs : List Int} (hz : IsBytes zs) (p : Nat) (hp : p < 8 * zs.length) : cntB (setB zs p) ≤ cntB zs + 1 := by
  have h := fold_set (fun z => Lib.onesCount z.toNat) zs (p / 8) (bits .or .u8 (zs[p / 8]?.getD 0) (2 ^ (p % 8))) (by omega)
  have hr := hz (p / 8)
  have hpw := pow8_rng (p % 8) (Nat.mod_lt _ (by decide))
  have e2 : ((2 : Int) ^ (p % 8)).toNat = 2 ^ (p % 8) := by
    have : ((2 : Int) ^ (p % 8)) = ((2 ^ (p % 8) : Nat) : Int) := by simp
    rw [this, Int.toNat_natCast]
  have h3 := pop_or ⟨(zs[p / 8]?.getD 0).toNat, by omega⟩ ⟨p % 8, Nat.mod_lt _ (by decide)⟩
  dsimp only at h h3
  rw [or8_nat _ _ hr (by omega), Int.toNat_natCast, e2] at h
  unfold cntB setB
  rw [or8_nat _ _ hr (by omega), e2]
  generalize Lib.onesCount ((zs[p / 8]?.getD 0).toNat ||| 2 ^ (p % 8)) = u at h h3
  generalize Lib.onesCount (zs[p / 8]?.getD 0).toNat = v at h h3
  omega
theorem cnt_addK {zs : List Int} (hz : IsBytes zs) (m : List Int) (h0 : 0 < zs.length) : ∀ k, cntB (addK zs m ((8 * zs.length : Nat) : Int) k) ≤ cntB zs + k
  | 0 => Nat.le_refl _
  | k + 1 => by
    have hp := plb_lt ((8 * zs.length : Nat) : Int) m k (by omega)
    rw [addK_succ]
    have h1 := cnt_set (addK_bytes hz m ((8 * zs.length : Nat) : Int) k) (plb ((8 * zs.length : Nat) : Int) m k) (by rw [addK_length]; omega)
    have h2 := cnt_addK hz m h0 k
    omega
theorem cnt_adds {zs : List Int} (hz : IsBytes zs) (h0 : 0 < zs.length) (l : List (List Int)) : cntB (addsL zs l) ≤ cntB zs + 4 * l.length := by
  unfold addsL
  induction l generalizing zs with
  | nil => exact Nat.le_refl _
  | cons m r ih =>
    have h1 := ih (addL_bytes hz m) (by rw [addL_length]; exact h0)
    have h2 : cntB (addL zs m) ≤ cntB zs + 4 := cnt_addK hz m h0 4
    rw [List.foldl_cons, List.length_cons]
    omega
theorem cnt_zero (t : Nat) : cntB (zerosL t) = 0 := by
  unfold zerosL
  induction t with
  | zero => rfl
  | succ n ih =>
    rw [List.replicate_succ', cntB_snoc, ih]
    rfl

end Go.Proofs.Ytpgiinogfmhfiaa

namespace Go.Proofs.Ytpgiinogfmhfiaa
open Go.RowKit

theorem MkSl.keptT {S : Nat → Prop} {w w' : World} {v : Value} {ms : List (List Int)} (h : MkSl w v ms) (k : Kp S w w') (hS : ∀ i, i < w.heap.size → ¬ S i) : MkSl w' v ms := by
  refine ⟨h.1, ?_⟩
  rcases h.2 with h | ⟨blk, off, cap, rfl, hc, hm, hr⟩
  · exact .inl h
  · exact .inr ⟨blk, off, cap, rfl, hc, hm, fun i hi j u hu => k.cell (hr i hi j u hu) (hS blk (World.block_lt_of_cell? _ _ (hr i hi j u hu)))⟩
theorem rng_keptT {S : Nat → Prop} {w w' : World} {B o : Nat} {vs : List Value} (h : w.rangeAt B o vs) (k : Kp S w w') (hS : ∀ i, i < w.heap.size → ¬ S i) : w'.rangeAt B o vs := fun j v hv => k.cell (h j v hv) (hS B (World.block_lt_of_cell? _ _ (h j v hv)))
/-- Two filters, each added to. -/
structure OrS (wA : World) (B1 C1 B2 C2 : Nat) (zs : List Int) (ms : List (List Int)) (k : Nat) (wr : World) : Prop where
  f1 : FlAt wr B1 C1 (addsL zs (ms.take k))
  f2 : FlAt wr B2 C2 (addsL zs (backL ms k))
  kp : Kp (fun b => b = C1 ∨ b = C2) wA wr
def OrR (wA : World) (B1 C1 B2 C2 : Nat) (zs : List Int) (ms : List (List Int)) (N : Nat) (i : Value) (wr : World) : Prop := ∃ k : Nat, k ≤ N ∧ i = .int .i64 k ∧ Hid (OrS wA B1 C1 B2 C2 zs ms k wr)

set_option maxRecDepth 100000 in
set_option maxHeartbeats 16000000 in
theorem lorder_any (cs : List Value) (n : Int) (vA : Value) (ms : List (List Int)) (w : World) (hc0 : cs[0]? = some (.int .i64 n)) (hc2 : cs[2]? = some vA) (hA : MkSl w vA ms) (hn : -9223372036854775808 ≤ n ∧ n < 9223372036854775808) :
    Calls Try.prog 6 #[.agg cs.toArray] w fun e w' => e = .returned (.bool true) ∧ Kp Nb w w' := by
  obtain ⟨yA, dA, rfl⟩ := hA.shape
  obtain ⟨N, hN⟩ : ∃ N, ms.length = N := ⟨_, rfl⟩
  rw [hN] at hc2 hA
  have HNM := hid hN
  have HNR := hid hn
  obtain ⟨D, hD⟩ : ∃ D, w.heap.size = D := ⟨_, rfl⟩
  obtain ⟨W, hW⟩ : ∃ W, W = w.alloc (.cells cs.toArray 27) := ⟨_, rfl⟩
  have H0 : Hid (Blk W D 27 cs) := hid (by rw [hW, ← hD]; exact Blk.new w _ _)
  have k0 : Kp Nb w W := by rw [hW]; exact (Kp.refl Nb w).alloc _
  have K0 := hid k0
  have HA0 := hid (hA.kept k0)
  have HC0 := hid hc0
  have HC2 := hid hc2
  clear hA k0 hN hn hc0 hc2
  go_enter Try.func6, Try.ntmps6
  go_upto_region 1 with fail
  rw [show w.alloc (.cells cs.toArray 27) = W from hW.symm]
  clear hW hD
  go_wp2_with fail
  refine (lfirst_any _).mono ?_
  rintro e w1 ⟨rfl, k1⟩
  have H1 := hid (H0.out.kept k1 (fun h => h))
  have HA1 := hid (HA0.out.kept k1)
  have K1 := hid (K0.out.trans k1 (fun _ _ h => h))
  have c0 : w1.cell? ⟨D, 0, none⟩ = some (.int .i64 n) := (H1.out.cell 0).trans HC0.out
  have c2 : w1.cell? ⟨D, 2, none⟩ = some (.slice yA N dA) := (H1.out.cell 2).trans HC2.out
  clear k1 H0 HA0 K0
  by_cases hl : 60 < N
  · have d1 : decide ((N : Int) > 60) = true := decide_eq_true (by omega)
    go_wp2
    go_ret
    exact ⟨rfl, K1.out⟩
  have d1 : decide ((N : Int) > 60) = false := decide_eq_false (by omega)
  have HN60 : Hid (N ≤ 60) := hid (by omega)
  clear hl
  cases hf : fitL n
  · have CN : Hid (∀ w, Calls Try.prog 8 #[.int .i64 n] w fun e w' => e = .returned (.tuple #[.pointer none, .int .i64 2]) ∧ w = w') := hid (fun w => lnew_no n w HNR.out.1 HNR.out.2 hf)
    clear hf
    go_wp2_with fail
    refine (CN.out _).mono ?_
    rintro e w2 ⟨rfl, rfl⟩
    go_wp2
    go_ret
    exact ⟨rfl, K1.out⟩
  · obtain ⟨t, rfl, t0, t1⟩ := fitL_t hf
    have CN : Hid (∀ w, Calls Try.prog 8 #[.int .i64 ((8 * t : Nat) : Int)] w fun e w' => ∃ B C, e = .returned (.tuple #[.pointer (some ⟨B, 0, none⟩), .int .i64 0]) ∧ FlAt w' B C (zerosL t) ∧ w.heap.size ≤ B ∧ w.heap.size ≤ C ∧ Kp Nb w w') := hid (fun w => lnew_yes t w t0 t1)
    have HT : Hid (8 ≤ t ∧ t ≤ 1024) := hid ⟨t0, t1⟩
    clear hf t0 t1
    go_wp2_with fail
    refine (CN.out _).mono ?_
    rintro e w2 ⟨B1, C1, rfl, f1, l1, l2, k2⟩
    have F1 := hid f1
    have H2 := hid (H1.out.kept k2 (fun h => h))
    have K12 := hid k2
    have L1 := hid (show w1.heap.size ≤ B1 ∧ w1.heap.size ≤ C1 ∧ B1 < w2.heap.size ∧ C1 < w2.heap.size ∧ D < w1.heap.size from ⟨l1, l2, f1.lt.1, f1.lt.2, H1.out.lt⟩)
    have c0 : w2.cell? ⟨D, 0, none⟩ = some (.int .i64 ((8 * t : Nat) : Int)) := (H2.out.cell 0).trans HC0.out
    clear f1 l1 l2 k2 c2 d1
    go_wp2_with fail
    refine (CN.out _).mono ?_
    rintro e w3 ⟨B2, C2, rfl, f2, l1, l2, k3⟩
    have F1' := hid (F1.out.kept k3 (fun h => h) (fun h => h))
    have F2 := hid f2
    have H3 := hid (H2.out.kept k3 (fun h => h))
    have K13 : Hid (Kp (fun b => b = C1 ∨ b = C2) w1 w3) := hid ((K12.out.trans k3 (fun _ _ h => h)).mono (fun _ _ h => h.elim))
    have L2 := hid (show w2.heap.size ≤ B2 ∧ w2.heap.size ≤ C2 from ⟨l1, l2⟩)
    have LW := hid K1.out.size
    have c2 : w3.cell? ⟨D, 2, none⟩ = some (.slice yA N dA) := (H3.out.cell 2).trans HC2.out
    obtain ⟨zs, hzs⟩ : ∃ z, zerosL t = z := ⟨_, rfl⟩
    rw [hzs] at F1' F2
    have HZS := hid hzs
    have HZB : Hid (IsBytes zs) := hid F2.out.ok
    have HZL : Hid (zs.length = t) := hid (by rw [← hzs]; exact List.length_replicate)
    have S0 : Hid (OrS w1 B1 C1 B2 C2 zs ms 0 w3) := hid ⟨by rw [List.take_zero]; exact F1'.out, F2.out, K13.out⟩
    clear hzs f2 l1 l2 k3 F1 c0 H2 H3 K12 K13 CN F1' F2
    go_wp2
    go_loopw [34] (OrR w1 B1 C1 B2 C2 zs ms N) (fun i _ => N - (intOf i).toNat)
    case atStart => exact ⟨0, Nat.zero_le _, rfl, S0⟩
    case round =>
      clear S0
      obtain ⟨k, hk, rfl, HO⟩ := hrel
      have TN : Hid (∀ i, i < w1.heap.size → ¬ (i = C1 ∨ i = C2)) := hid (fun i hi h => by have := L1.out; have := L2.out; omega)
      have KW : Hid (Kp Nb w wr) := hid (K1.out.trans HO.out.kp (fun i hi h => by have := LW.out; exact TN.out i (by omega) h))
      have CA : Hid (wr.cell? ⟨D, 2, none⟩ = some (.slice yA N dA)) := hid (((H1.out.kept HO.out.kp (fun h => TN.out D L1.out.2.2.2.2 h)).cell 2).trans HC2.out)
      by_cases hlt : k < N
      · rcases HA1.out.2 with ⟨_, e0⟩ | ⟨blk, off, cap, e1, hc, hm, hcell⟩
        · have := HNM.out; rw [e0] at this; simp at this; omega
        injection e1 with e1 e7 e2
        subst e1 e2
        clear e7
        rw [HNM.out] at hc
        unfold maxLen at hm
        obtain ⟨j, hj⟩ : ∃ j, N - 1 - k = j := ⟨_, rfl⟩
        have R1 := hid (hcell k (by rw [HNM.out]; exact hlt))
        have R2 := hid (hcell j (by rw [HNM.out]; omega))
        have R3 := hid (hcell 0 (by rw [HNM.out]; omega))
        have OX := hid (HA1.out.1 k)
        have OY := hid (HA1.out.1 j)
        have OZ := hid (HA1.out.1 0)
        have HX1 : Hid (addsL zs (ms.take (k + 1)) = addL (addsL zs (ms.take k)) (markAt ms k)) := hid (by
          have hkl : k < ms.length := by rw [HNM.out]; exact hlt
          rw [List.take_succ_eq_append_getElem hkl, addsL_snoc]
          unfold markAt
          rw [List.getElem?_eq_getElem hkl]
          rfl)
        have HX2 : Hid (addsL zs (backL ms (k + 1)) = addL (addL (addsL zs (backL ms k)) (markAt ms j)) (markAt ms 0)) := hid (by rw [backL_succ, addsL_snoc, addsL_snoc, HNM.out, hj])
        rw [Nat.zero_mul, Nat.add_zero] at R3
        have ej : (N : Int) - 1 - (k : Int) = (j : Int) := by omega
        have hjn : j < N := by omega
        generalize markAt ms k = x at R1 OX HX1
        generalize markAt ms j = y at R2 OY HX2
        generalize markAt ms 0 = z at R3 OZ HX2
        have MX := hid (mark_infoL x OX.out.len)
        have MY := hid (mark_infoL y OY.out.len)
        have MZ := hid (mark_infoL z OZ.out.len)
        obtain ⟨M5, hM5⟩ : ∃ N, wr.heap.size = N := ⟨_, rfl⟩
        have hb0 : Blk (wr.alloc (.cells #[.int .u8 0, .int .u8 0, .int .u8 0, .int .u8 0, .int .u8 0, .int .u8 0, .int .u8 0, .int .u8 0, .int .u8 0, .int .u8 0, .int .u8 0, .int .u8 0, .int .u8 0, .int .u8 0, .int .u8 0, .int .u8 0] 24)) wr.heap.size 24 (markL z16) := Blk.new wr 24 (markL z16)
        rw [hM5] at hb0
        obtain ⟨W5, hW5⟩ : ∃ W, W = (wr.alloc (.cells #[.int .u8 0, .int .u8 0, .int .u8 0, .int .u8 0, .int .u8 0, .int .u8 0, .int .u8 0, .int .u8 0, .int .u8 0, .int .u8 0, .int .u8 0, .int .u8 0, .int .u8 0, .int .u8 0, .int .u8 0, .int .u8 0] 24)).setCells M5 0 (markL x) := ⟨_, rfl⟩
        have D5 : Hid (Blk W5 M5 24 (markL x)) := hid (by rw [hW5]; exact row_set hb0 (by rw [markL_length, OX.out.len]; rfl))
        have k5 : Kp Nb wr W5 := by rw [hW5]; exact Kp.setCells (fun h => by omega) _ _ _ ((Kp.refl Nb wr).alloc _)
        have TH : Hid ((wr.alloc (.cells #[.int .u8 0, .int .u8 0, .int .u8 0, .int .u8 0, .int .u8 0, .int .u8 0, .int .u8 0, .int .u8 0, .int .u8 0, .int .u8 0, .int .u8 0, .int .u8 0, .int .u8 0, .int .u8 0, .int .u8 0, .int .u8 0] 24)).there M5 0 (markL x).toArray.size) := hid (by rw [List.size_toArray, markL_length, OX.out.len]; exact hb0.there 0 16 (Nat.le_refl _))
        have SI : Hid ((Try.prog.info? 24).map (·.size) = some (markL x).toArray.size) := hid (by rw [List.size_toArray]; exact mark_infoL x OX.out.len)
        have ON : Hid ((markL x).toArray.all (·.oneCell') = true) := hid (all_oneCell_toArray (markL_one' x))
        have F15 := hid (HO.out.f1.kept k5 (fun h => h) (fun h => h))
        have F25 := hid (HO.out.f2.kept k5 (fun h => h) (fun h => h))
        have K5 : Hid (Kp (fun b => b = C1 ∨ b = C2) w1 W5) := hid (HO.out.kp.trans k5 (fun _ _ h => h.elim))
        have R1r := hid (rng_keptT R1.out HO.out.kp TN.out)
        have HLT := hid hlt
        clear hb0 hj hcell k5 HO
        go_upto_region 12 with (first
          | (refine wpList_load_mid (by rfl) 24 (.tmp 37) (by rfl) blk (off + k * 16) (by rfl) (markL x) _ R1r.out under_mark rfl MX.out ?_)
          | (refine wpList_store_mid (by rfl) 24 (.tmp 8) (.tmp 38) (by rfl) M5 0 (markL x).toArray (by rfl) (by rfl) TH.out SI.out ON.out ?_))
        rw [show (wr.alloc (.cells #[.int .u8 0, .int .u8 0, .int .u8 0, .int .u8 0, .int .u8 0, .int .u8 0, .int .u8 0, .int .u8 0, .int .u8 0, .int .u8 0, .int .u8 0, .int .u8 0, .int .u8 0, .int .u8 0, .int .u8 0, .int .u8 0] 24)).setCells M5 0 (markL x) = W5 from hW5.symm]
        clear hW5 hM5
        have LL : Hid (B1 ≠ C2 ∧ C1 ≠ C2 ∧ B2 ≠ C1) := hid (by have := L1.out; have := L2.out; omega)
        have D5r := hid (range_of D5.out)
        go_wp2_with (refine wpList_load_mid (by rfl) 24 (.tmp 8) (by rfl) M5 0 (by rfl) (markL x) _ D5r.out under_mark rfl MX.out ?_)
        refine (ladd_any B1 C1 _ x _ F15.out OX.out).mono ?_
        rintro e w6 ⟨rfl, f6, k6⟩
        have F16 : Hid (FlAt w6 B1 C1 (addsL zs (ms.take (k + 1)))) := hid (by rw [HX1.out]; exact f6)
        have F26 := hid (F25.out.kept k6 (fun h => LL.out.2.2 h) (fun h => LL.out.2.1 h.symm))
        have K6 : Hid (Kp (fun b => b = C1 ∨ b = C2) w1 w6) := hid (K5.out.trans k6 (fun _ _ h => .inl h))
        have R26 := hid (rng_keptT R2.out K6.out TN.out)
        have ca : w6.cell? ⟨D, 2, none⟩ = some (.slice (some ⟨blk, off, none⟩) N dA) := ((H1.out.kept K6.out (fun h => TN.out D L1.out.2.2.2.2 h)).cell 2).trans HC2.out
        clear f6 k6 F15 F25 K5 D5 D5r
        go_wp2_with (refine wpList_load_mid (by rfl) 24 (.tmp 51) (by rfl) blk (off + j * 16) (by rfl) (markL y) _ R26.out under_mark rfl MY.out ?_)
        refine (ladd_any B2 C2 _ y _ F26.out OY.out).mono ?_
        rintro e w7 ⟨rfl, f7, k7⟩
        have F17 := hid (F16.out.kept k7 (fun h => LL.out.1 h) (fun h => LL.out.2.1 h))
        have F27 := hid f7
        have K7 : Hid (Kp (fun b => b = C1 ∨ b = C2) w1 w7) := hid (K6.out.trans k7 (fun _ _ h => .inr h))
        have R37 := hid (rng_keptT R3.out K7.out TN.out)
        have ca7 : w7.cell? ⟨D, 2, none⟩ = some (.slice (some ⟨blk, off, none⟩) N dA) := ((H1.out.kept K7.out (fun h => TN.out D L1.out.2.2.2.2 h)).cell 2).trans HC2.out
        clear f7 k7 F16 F26 K6 ca R26
        go_wp2_with (refine wpList_load_mid (by rfl) 24 (.tmp 57) (by rfl) blk off (by rfl) (markL z) _ R37.out under_mark rfl MZ.out ?_)
        refine (ladd_any B2 C2 _ z _ F27.out OZ.out).mono ?_
        rintro e w8 ⟨rfl, f8, k8⟩
        have RE : Hid (OrS w1 B1 C1 B2 C2 zs ms (k + 1) w8) := hid ⟨F17.out.kept k8 (fun h => LL.out.1 h) (fun h => LL.out.2.1 h), by rw [HX2.out]; exact f8, K7.out.trans k8 (fun _ _ h => .inr h)⟩
        clear f8 k8 F17 F27 K7 ca7 R37
        go_wp2
        go_roundw
        case rel => exact ⟨k + 1, HLT.out, by go_num, RE⟩
        case measure => have := HLT.out; simp [intOf]; omega
      · obtain rfl : k = N := by omega
        have htk : ms.take k = ms := List.take_of_length_le (by rw [HNM.out]; exact Nat.le_refl _)
        have h0 : 0 < zs.length := by rw [HZL.out]; have := HT.out; omega
        have hos := order_same HZB.out h0 ms
        rw [HNM.out] at hos
        obtain ⟨X, hX⟩ : ∃ x, addsL zs ms = x := ⟨_, rfl⟩
        have HF1 : Hid (FlAt wr B1 C1 X) := hid (by have h := HO.out.f1; rw [htk, hX] at h; exact h)
        have HF2 : Hid (FlAt wr B2 C2 X) := hid (by have h := HO.out.f2; rw [← hos, hX] at h; exact h)
        have HXL : Hid (X.length = t) := hid (by rw [← hX, addsL_len]; exact HZL.out)
        obtain ⟨cn, hcn⟩ : ∃ c, cntB X = c := ⟨_, rfl⟩
        have HC4 : Hid (cn ≤ 4 * k ∧ cn ≤ 8 * t) := hid (by
          have h1 := cnt_adds HZB.out h0 ms
          have h2 := cnt_zero t
          rw [HZS.out] at h2
          have h3 := cntB_le X HF1.out.ok X.length (Nat.le_refl _)
          rw [List.take_length, HXL.out] at h3
          rw [hX, HNM.out] at h1
          rw [← hcn]
          omega)
        obtain ⟨SX, hSX⟩ : ∃ s, st (bytL X) = s := ⟨_, rfl⟩
        have EQX : Hid ((SX.toList == SX.toList) = true) := hid (beq_self_eq_true _)
        have CB1 : Hid (∀ w', Kp Nb wr w' → Calls Try.prog 18 #[.pointer (some ⟨B1, 0, none⟩)] w' fun e w'' => e = .returned (.string SX) ∧ Kp Nb w' w'') := hid (fun w' k => by rw [← hSX]; exact lbytes_any B1 C1 X w' (HF1.out.kept k (fun h => h) (fun h => h)))
        have CB2 : Hid (∀ w', Kp Nb wr w' → Calls Try.prog 18 #[.pointer (some ⟨B2, 0, none⟩)] w' fun e w'' => e = .returned (.string SX) ∧ Kp Nb w' w'') := hid (fun w' k => by rw [← hSX]; exact lbytes_any B2 C2 X w' (HF2.out.kept k (fun h => h) (fun h => h)))
        have CCN : Hid (∀ w', Kp Nb wr w' → Calls Try.prog 16 #[.pointer (some ⟨B1, 0, none⟩)] w' fun e w'' => e = .returned (.int .i64 (cn : Int)) ∧ w' = w'') := hid (fun w' k => by rw [← hcn]; exact lcount_any B1 C1 X w' (HF1.out.kept k (fun h => h) (fun h => h)))
        have CBI : Hid (∀ w', Kp Nb wr w' → Calls Try.prog 15 #[.pointer (some ⟨B1, 0, none⟩)] w' fun e w'' => e = .returned (.int .i64 ((8 * t : Nat) : Int)) ∧ w' = w'') := hid (fun w' k => by rw [← HXL.out]; exact lbits_any B1 C1 X w' (HF1.out.kept k (fun h => h) (fun h => h)))
        have DC1 : Hid (decide ((cn : Int) ≤ ((4 * k : Nat) : Int)) = true) := hid (decide_eq_true (by have := HC4.out; omega))
        have DC1' : Hid (cn ≤ 4 * k) := hid HC4.out.1
        have DC2 : Hid (decide ((cn : Int) ≤ ((8 * t : Nat) : Int)) = true) := hid (decide_eq_true (by have := HC4.out; omega))
        have DC2' : Hid (cn ≤ 8 * t) := hid HC4.out.2
        have WR4 : Hid (IntKind.i64.wrap (4 * (k : Int)) = 4 * (k : Int)) := hid (by have := HN60.out; rw [IntKind.wrap_i64]; omega)
        have DI1 : Hid ((cn : Int) ≤ 4 * (k : Int)) := hid (by have := HC4.out; omega)
        have DI2 : Hid ((cn : Int) ≤ 8 * (t : Int)) := hid (by have := HC4.out; omega)
        clear htk h0 hos hX hcn hSX HO
        go_upto_region 16 with fail
        refine region_vals2 [none, none, some 21, none, none, none, none, none, none, none, none, none, none, none, none, none, none, none, none, none, none, none, none, none, none, none, none, none, none, none, none, none, none, none, none, none, none, none, none, none, none, none, none, none, none, none, none, none, none, none, none, none, none, none, none, none, none, none, none, none, none, some 0, some 1, some 2, some 3, some 4, some 5, some 6, some 7, some 8, some 9, some 10, some 11, some 12, some 13, some 14, some 15, some 16, some 17, some 18, some 19, some 20] [[(3, none)], [(61, some 0)], [(5, none)], [(63, some 2)], [(62, some 1), (64, some 3)], [(65, some 4)], [(3, none)], [(67, some 6)], [(1, none)], [(69, some 8)], [(70, some 9)], [(71, some 10)], [(68, some 7), (72, some 11)], [(66, some 5), (73, some 12)], [(74, some 13)], [(3, none)], [(76, some 15)], [(3, none)], [(78, some 17)], [(77, some 16), (79, some 18)], [(75, some 14), (80, some 19)], [(81, some 20)]] [some 61, some 62, some 63, some 64, some 65, some 66, some 67, some 68, some 69, some 70, some 71, some 72, some 73, some 74, some 75, some 76, some 77, some 78, some 79, some 80, some 81, some 2] [.pointer (some ⟨B1, 0, none⟩), .string SX, .pointer (some ⟨B2, 0, none⟩), .string SX, .bool true, .bool true, .pointer (some ⟨B1, 0, none⟩), .int .i64 (cn : Int), .pointer (some ⟨D, 2, none⟩), .slice yA k dA, .int .i64 (k : Int), .int .i64 ((4 * k : Nat) : Int), .bool true, .bool true, .bool true, .pointer (some ⟨B1, 0, none⟩), .int .i64 (cn : Int), .pointer (some ⟨B1, 0, none⟩), .int .i64 ((8 * t : Nat) : Int), .bool true, .bool true, .bool true] (fun w' => Hid (Kp Nb wr w')) (by kernel_rfl) (by kernel_rfl) (by kernel_rfl) ?hS (VFrom.all (n := 22) (by kernel_rfl) ?hstep) ?hend
        case hstep =>
          refine VFrom.cons (VStep.val _ rfl _ rfl (.pointer (some ⟨B1, 0, none⟩)) rfl trivial (fun ev wq hS he hr => ?_)) ?_
          · have r0 : ev (.tmp 3) = .pointer (some ⟨B1, 0, none⟩) := hr (3, none) (by simp); have hk := he.1; clear hr he
            go_simp
          refine VFrom.cons (VStep.call _ rfl _ rfl (.string SX) rfl trivial 18 #[.pointer (some ⟨B1, 0, none⟩)] (fun ev wq hS he hr => ?_) (fun wq hS => ?_)) ?_
          · have r0 : ev (.tmp 61) = .pointer (some ⟨B1, 0, none⟩) := hr (61, some 0) (by simp); have hk := he.1; have hf := he.2; clear hr he
            go_simp
          · exact (CB1.out wq hS.out).mono fun e w' ⟨h1, h2⟩ => ⟨h1, hid (hS.out.trans h2 (fun _ _ h => h))⟩
          refine VFrom.cons (VStep.val _ rfl _ rfl (.pointer (some ⟨B2, 0, none⟩)) rfl trivial (fun ev wq hS he hr => ?_)) ?_
          · have r0 : ev (.tmp 5) = .pointer (some ⟨B2, 0, none⟩) := hr (5, none) (by simp); have hk := he.1; clear hr he
            go_simp
          refine VFrom.cons (VStep.call _ rfl _ rfl (.string SX) rfl trivial 18 #[.pointer (some ⟨B2, 0, none⟩)] (fun ev wq hS he hr => ?_) (fun wq hS => ?_)) ?_
          · have r0 : ev (.tmp 63) = .pointer (some ⟨B2, 0, none⟩) := hr (63, some 2) (by simp); have hk := he.1; have hf := he.2; clear hr he
            go_simp
          · exact (CB2.out wq hS.out).mono fun e w' ⟨h1, h2⟩ => ⟨h1, hid (hS.out.trans h2 (fun _ _ h => h))⟩
          refine VFrom.cons (VStep.val _ rfl _ rfl (.bool true) rfl trivial (fun ev wq hS he hr => ?_)) ?_
          · have r0 : ev (.tmp 62) = .string SX := hr (62, some 1) (by simp); have r1 : ev (.tmp 64) = .string SX := hr (64, some 3) (by simp); have hk := he.1; clear hr he
            have e1 := EQX.out
            go_simp
          refine VFrom.cons (VStep.val _ rfl _ rfl (.bool true) rfl trivial (fun ev wq hS he hr => ?_)) ?_
          · have r0 : ev (.tmp 65) = .bool true := hr (65, some 4) (by simp); have hk := he.1; clear hr he
            go_simp
          refine VFrom.cons (VStep.val _ rfl _ rfl (.pointer (some ⟨B1, 0, none⟩)) rfl rfl (fun ev wq hS he hr => ?_)) ?_
          · have r0 : ev (.tmp 3) = .pointer (some ⟨B1, 0, none⟩) := hr (3, none) (by simp); have hk := he.1; clear hr he
            go_simp
          refine VFrom.cons (VStep.call _ rfl _ rfl (.int .i64 (cn : Int)) rfl rfl 16 #[.pointer (some ⟨B1, 0, none⟩)] (fun ev wq hS he hr => ?_) (fun wq hS => ?_)) ?_
          · have r0 : ev (.tmp 67) = .pointer (some ⟨B1, 0, none⟩) := hr (67, some 6) (by simp); have hk := he.1; have hf := he.2; clear hr he
            go_simp
          · exact (CCN.out wq hS.out).mono fun e w' ⟨h1, h2⟩ => ⟨h1, by rw [← h2]; exact hS⟩
          refine VFrom.cons (VStep.val _ rfl _ rfl (.pointer (some ⟨D, 2, none⟩)) rfl rfl (fun ev wq hS he hr => ?_)) ?_
          · have r0 : ev (.tmp 1) = .pointer (some ⟨D, 0, none⟩) := hr (1, none) (by simp); have hk := he.1; clear hr he
            go_simp
          refine VFrom.cons (VStep.val _ rfl _ rfl (.slice yA k dA) rfl rfl (fun ev wq hS he hr => ?_)) ?_
          · have r0 : ev (.tmp 69) = .pointer (some ⟨D, 2, none⟩) := hr (69, some 8) (by simp); have hk := he.1; clear hr he
            have c0 := (hS.out.cell (p := ⟨D, 2, none⟩) CA.out (fun h => h))
            go_simp
          refine VFrom.cons (VStep.val _ rfl _ rfl (.int .i64 (k : Int)) rfl rfl (fun ev wq hS he hr => ?_)) ?_
          · have r0 : ev (.tmp 70) = .slice yA k dA := hr (70, some 9) (by simp); have hk := he.1; clear hr he
            go_simp
          refine VFrom.cons (VStep.val _ rfl _ rfl (.int .i64 ((4 * k : Nat) : Int)) rfl rfl (fun ev wq hS he hr => ?_)) ?_
          · have r0 : ev (.tmp 71) = .int .i64 (k : Int) := hr (71, some 10) (by simp); have hk := he.1; clear hr he
            have e1 := HN60.out; have e2 := WR4.out
            go_simp
          refine VFrom.cons (VStep.val _ rfl _ rfl (.bool true) rfl rfl (fun ev wq hS he hr => ?_)) ?_
          · have r0 : ev (.tmp 68) = .int .i64 (cn : Int) := hr (68, some 7) (by simp); have r1 : ev (.tmp 72) = .int .i64 ((4 * k : Nat) : Int) := hr (72, some 11) (by simp); have hk := he.1; clear hr he
            have e1 := DC1.out; have e2 := DC1'.out; have e3 := DI1.out
            go_simp
          refine VFrom.cons (VStep.val _ rfl _ rfl (.bool true) rfl trivial (fun ev wq hS he hr => ?_)) ?_
          · have r0 : ev (.tmp 66) = .bool true := hr (66, some 5) (by simp); have r1 : ev (.tmp 73) = .bool true := hr (73, some 12) (by simp); have hk := he.1; clear hr he
            go_simp
          refine VFrom.cons (VStep.val _ rfl _ rfl (.bool true) rfl trivial (fun ev wq hS he hr => ?_)) ?_
          · have r0 : ev (.tmp 74) = .bool true := hr (74, some 13) (by simp); have hk := he.1; clear hr he
            go_simp
          refine VFrom.cons (VStep.val _ rfl _ rfl (.pointer (some ⟨B1, 0, none⟩)) rfl rfl (fun ev wq hS he hr => ?_)) ?_
          · have r0 : ev (.tmp 3) = .pointer (some ⟨B1, 0, none⟩) := hr (3, none) (by simp); have hk := he.1; clear hr he
            go_simp
          refine VFrom.cons (VStep.call _ rfl _ rfl (.int .i64 (cn : Int)) rfl rfl 16 #[.pointer (some ⟨B1, 0, none⟩)] (fun ev wq hS he hr => ?_) (fun wq hS => ?_)) ?_
          · have r0 : ev (.tmp 76) = .pointer (some ⟨B1, 0, none⟩) := hr (76, some 15) (by simp); have hk := he.1; have hf := he.2; clear hr he
            go_simp
          · exact (CCN.out wq hS.out).mono fun e w' ⟨h1, h2⟩ => ⟨h1, by rw [← h2]; exact hS⟩
          refine VFrom.cons (VStep.val _ rfl _ rfl (.pointer (some ⟨B1, 0, none⟩)) rfl rfl (fun ev wq hS he hr => ?_)) ?_
          · have r0 : ev (.tmp 3) = .pointer (some ⟨B1, 0, none⟩) := hr (3, none) (by simp); have hk := he.1; clear hr he
            go_simp
          refine VFrom.cons (VStep.call _ rfl _ rfl (.int .i64 ((8 * t : Nat) : Int)) rfl rfl 15 #[.pointer (some ⟨B1, 0, none⟩)] (fun ev wq hS he hr => ?_) (fun wq hS => ?_)) ?_
          · have r0 : ev (.tmp 78) = .pointer (some ⟨B1, 0, none⟩) := hr (78, some 17) (by simp); have hk := he.1; have hf := he.2; clear hr he
            go_simp
          · exact (CBI.out wq hS.out).mono fun e w' ⟨h1, h2⟩ => ⟨h1, by rw [← h2]; exact hS⟩
          refine VFrom.cons (VStep.val _ rfl _ rfl (.bool true) rfl rfl (fun ev wq hS he hr => ?_)) ?_
          · have r0 : ev (.tmp 77) = .int .i64 (cn : Int) := hr (77, some 16) (by simp); have r1 : ev (.tmp 79) = .int .i64 ((8 * t : Nat) : Int) := hr (79, some 18) (by simp); have hk := he.1; clear hr he
            have e1 := DC2.out; have e2 := DC2'.out; have e3 := DI2.out
            go_simp
          refine VFrom.cons (VStep.val _ rfl _ rfl (.bool true) rfl trivial (fun ev wq hS he hr => ?_)) ?_
          · have r0 : ev (.tmp 75) = .bool true := hr (75, some 14) (by simp); have r1 : ev (.tmp 80) = .bool true := hr (80, some 19) (by simp); have hk := he.1; clear hr he
            go_simp
          refine VFrom.cons (VStep.val _ rfl _ rfl (.bool true) rfl trivial (fun ev wq hS he hr => ?_)) ?_
          · have r0 : ev (.tmp 81) = .bool true := hr (81, some 20) (by simp); have hk := he.1; clear hr he
            go_simp
          exact VFrom.nil
        case hS => exact hid (Kp.refl Nb wr).drew
        case hend =>
          intro wy hy
          have K9 := hid (KW.out.trans hy.out (fun _ _ h => h))
          clear hy
          simp only [putAll, List.zip_cons_cons, List.zip_nil_right, List.foldl_cons, List.foldl_nil, Act.put, List.setIfInBounds_toArray, List.set_cons_zero, List.set_cons_succ]
          go_wp2
          go_ret
          exact ⟨rfl, K9.out⟩

end Go.Proofs.Ytpgiinogfmhfiaa

namespace Go.Proofs.Ytpgiinogfmhfiaa
open Go.RowKit

/-- After `k` bytes of the second. -/
def orK (zs ys : List Int) : Nat → List Int
  | 0 => zs
  | k + 1 => (orK zs ys k).set k (bits .or .u8 ((orK zs ys k)[k]?.getD 0) (ys[k]?.getD 0))
def orL (zs ys : List Int) : List Int := orK zs ys ys.length
theorem orK_len (zs ys : List Int) : ∀ k, (orK zs ys k).length = zs.length
  | 0 => rfl
  | k + 1 => by unfold orK; rw [List.length_set]; exact orK_len zs ys k
def UnR (W : World) (B C : Nat) (zs ys : List Int) (i : Value) (wr : World) : Prop := ∃ k : Nat, k ≤ ys.length ∧ i = .int .i64 k ∧ Hid (FlAt wr B C (orK zs ys k)) ∧ Hid (Kp (fun b => b = C) W wr)
set_option maxRecDepth 100000 in
set_option maxHeartbeats 4000000 in
theorem lunion_yes (B C B2 C2 : Nat) (zs ys : List Int) (w : World) (h : FlAt w B C zs) (h' : FlAt w B2 C2 ys) (hl : zs.length = ys.length) :
    Calls Try.prog 11 #[.pointer (some ⟨B, 0, none⟩), .pointer (some ⟨B2, 0, none⟩)] w fun e w' => ∃ B' C', e = .returned (.tuple #[.pointer (some ⟨B', 0, none⟩), .int .i64 0]) ∧ FlAt w' B' C' (orL zs ys) ∧ w.heap.size ≤ B' ∧ w.heap.size ≤ C' ∧ Kp Nb w w' := by
  obtain ⟨cap, rest, h1, h2, h3, h4⟩ := h.at'
  obtain ⟨cap2, rest2, g1, g2, g3, g4⟩ := h'.at'
  have HBY : Hid (BySl Nb w (.slice (some ⟨C, 0, none⟩) zs.length cap) zs) := hid (h.by' (h1.cell 0))
  have HSZ := hid h.size
  have HOK := hid h.ok
  have HOK2 := hid h'.ok
  have G2 := hid g2
  have HY := hid h'
  obtain ⟨n, hn⟩ : ∃ n, zs.length = n := ⟨_, rfl⟩
  have HN := hid hn
  have HN2 : Hid (ys.length = n) := hid (by rw [← hl]; exact hn)
  rw [hn] at h1 HBY HSZ
  rw [HN2.out] at g1 g3
  have H1 := hid h1
  have G1 := hid g1
  have c0 := h1.cell 0
  have d0 := g1.cell 0
  simp only [List.getElem?_cons_zero] at c0 d0
  have CC : Hid (∀ w0, Kp Nb w w0 → Calls Try.prog 29 #[.slice (some ⟨C, 0, none⟩) n cap] w0 fun e w' => ∃ v', e = .returned v' ∧ w'.ownsRow w0.heap.size 5 1 v' n (zs.map (Value.int .u8)) ∧ Kp Nb w0 w') := hid (fun w0 k0 => by
    have h := clone_any _ zs w0 (HBY.out.kept k0 (fun _ h => h)) (by rw [hn]; have := HSZ.out; omega)
    rw [hn] at h
    exact h)
  have L2 : Hid (B2 < w.heap.size ∧ C2 < w.heap.size) := hid h'.lt
  clear h h' h1 h2 h3 h4 g1 g2 hl hn
  have HC2 : Hid (n ≤ cap2 ∧ cap2 ≤ maxLen) := hid ⟨g3, g4⟩
  clear g3 g4
  go_enter Try.func11, Try.ntmps11
  go_upto_region 3 with fail
  refine region_vals2 [none, none, none, none, none, none, none, none, none, none, none, none, none, none, none, some 0, some 1, some 2, some 3, some 4, some 5, some 6, some 7, some 8, some 9, some 10, none, none, none, none, none, none, none, none, none, none, none, none, none, none, none, none, none, none, none, none, none, none, none, none, none, none, none, none, none] [[(0, none)], [(15, some 0)], [(16, some 1)], [(17, some 2)], [(18, some 3)], [(1, none)], [(20, some 5)], [(21, some 6)], [(22, some 7)], [(23, some 8)], [(19, some 4), (24, some 9)]] [some 15, some 16, some 17, some 18, some 19, some 20, some 21, some 22, some 23, some 24, some 25] [.pointer (some ⟨B, 0, none⟩), .pointer (some ⟨B, 0, none⟩), .pointer (some ⟨B, 0, none⟩), .slice (some ⟨C, 0, none⟩) n cap, .int .i64 (n : Int), .pointer (some ⟨B2, 0, none⟩), .pointer (some ⟨B2, 0, none⟩), .pointer (some ⟨B2, 0, none⟩), .slice (some ⟨C2, 0, none⟩) n cap2, .int .i64 (n : Int), .bool false] (fun w' => Hid (Kp Nb w w')) (by kernel_rfl) (by kernel_rfl) (by kernel_rfl) ?hS (VFrom.all (n := 11) (by kernel_rfl) ?hstep) ?hend
  case hstep =>
    refine VFrom.cons (VStep.val _ rfl _ rfl (.pointer (some ⟨B, 0, none⟩)) rfl trivial (fun ev wq hS he hr => ?_)) ?_
    · have r0 : ev (.tmp 0) = .pointer (some ⟨B, 0, none⟩) := hr (0, none) (by simp); have hk := he.1; clear hr he
      go_simp
    refine VFrom.cons (VStep.val _ rfl _ rfl (.pointer (some ⟨B, 0, none⟩)) rfl trivial (fun ev wq hS he hr => ?_)) ?_
    · have r0 : ev (.tmp 15) = .pointer (some ⟨B, 0, none⟩) := hr (15, some 0) (by simp); have hk := he.1; clear hr he
      go_simp
    refine VFrom.cons (VStep.val _ rfl _ rfl (.pointer (some ⟨B, 0, none⟩)) rfl trivial (fun ev wq hS he hr => ?_)) ?_
    · have r0 : ev (.tmp 16) = .pointer (some ⟨B, 0, none⟩) := hr (16, some 1) (by simp); have hk := he.1; clear hr he
      go_simp
    refine VFrom.cons (VStep.val _ rfl _ rfl (.slice (some ⟨C, 0, none⟩) n cap) rfl trivial (fun ev wq hS he hr => ?_)) ?_
    · have r0 : ev (.tmp 17) = .pointer (some ⟨B, 0, none⟩) := hr (17, some 2) (by simp); have hk := he.1; clear hr he
      have c0 := ((H1.out.kept hS.out (fun h => h)).cell 0)
      go_simp
    refine VFrom.cons (VStep.val _ rfl _ rfl (.int .i64 (n : Int)) rfl trivial (fun ev wq hS he hr => ?_)) ?_
    · have r0 : ev (.tmp 18) = .slice (some ⟨C, 0, none⟩) n cap := hr (18, some 3) (by simp); have hk := he.1; clear hr he
      go_simp
    refine VFrom.cons (VStep.val _ rfl _ rfl (.pointer (some ⟨B2, 0, none⟩)) rfl trivial (fun ev wq hS he hr => ?_)) ?_
    · have r0 : ev (.tmp 1) = .pointer (some ⟨B2, 0, none⟩) := hr (1, none) (by simp); have hk := he.1; clear hr he
      go_simp
    refine VFrom.cons (VStep.val _ rfl _ rfl (.pointer (some ⟨B2, 0, none⟩)) rfl trivial (fun ev wq hS he hr => ?_)) ?_
    · have r0 : ev (.tmp 20) = .pointer (some ⟨B2, 0, none⟩) := hr (20, some 5) (by simp); have hk := he.1; clear hr he
      go_simp
    refine VFrom.cons (VStep.val _ rfl _ rfl (.pointer (some ⟨B2, 0, none⟩)) rfl trivial (fun ev wq hS he hr => ?_)) ?_
    · have r0 : ev (.tmp 21) = .pointer (some ⟨B2, 0, none⟩) := hr (21, some 6) (by simp); have hk := he.1; clear hr he
      go_simp
    refine VFrom.cons (VStep.val _ rfl _ rfl (.slice (some ⟨C2, 0, none⟩) n cap2) rfl trivial (fun ev wq hS he hr => ?_)) ?_
    · have r0 : ev (.tmp 22) = .pointer (some ⟨B2, 0, none⟩) := hr (22, some 7) (by simp); have hk := he.1; clear hr he
      have c0 := ((G1.out.kept hS.out (fun h => h)).cell 0)
      go_simp
    refine VFrom.cons (VStep.val _ rfl _ rfl (.int .i64 (n : Int)) rfl trivial (fun ev wq hS he hr => ?_)) ?_
    · have r0 : ev (.tmp 23) = .slice (some ⟨C2, 0, none⟩) n cap2 := hr (23, some 8) (by simp); have hk := he.1; clear hr he
      go_simp
    refine VFrom.cons (VStep.val _ rfl _ rfl (.bool false) rfl trivial (fun ev wq hS he hr => ?_)) ?_
    · have r0 : ev (.tmp 19) = .int .i64 (n : Int) := hr (19, some 4) (by simp); have r1 : ev (.tmp 24) = .int .i64 (n : Int) := hr (24, some 9) (by simp); have hk := he.1; clear hr he
      go_simp
    exact VFrom.nil
  case hS => exact hid (Kp.refl Nb w).drew
  case hend =>
  intro w0 k0
  have K0 := k0
  clear k0 c0 d0
  simp only [putAll, List.zip_cons_cons, List.zip_nil_right, List.foldl_cons, List.foldl_nil, Act.put, List.setIfInBounds_toArray, List.set_cons_zero, List.set_cons_succ]
  have CC0 := hid (CC.out w0 K0.out)
  have H10 := hid (H1.out.kept K0.out (fun h => h))
  have c0 := H10.out.cell 0
  simp only [List.getElem?_cons_zero] at c0
  clear CC
  go_wp2_with fail
  refine CC0.out.mono ?_
  rintro e w1 ⟨vc, rfl, ow, k1⟩
  obtain ⟨g, cp, rest', rfl, hg, hb, hn1, hx1⟩ := own_blk ow (by have := HSZ.out; omega)
  obtain ⟨W2, hW2⟩ : ∃ W, W = w1.alloc (.cells #[.slice (some ⟨g, 0, none⟩) n cp] 60) := ⟨_, rfl⟩
  obtain ⟨Bn, hBn⟩ : ∃ N, w1.heap.size = N := ⟨_, rfl⟩
  have k2 : Kp Nb w1 W2 := by rw [hW2]; exact (Kp.refl Nb w1).alloc _
  have FL2 : Hid (FlAt W2 Bn g zs) := hid (by
    refine ⟨HOK.out, ⟨cp, rest', ?_, hb.kept k2 (fun h => h), by rw [HN.out]; exact hn1, hx1⟩, by rw [HN.out]; exact HSZ.out, fun e => ?_⟩
    · rw [HN.out, hW2, ← hBn]; exact Blk.new w1 _ [.slice (some ⟨g, 0, none⟩) n cp]
    · have := hb.lt; omega)
  have kk := K0.out.trans (k1.trans k2 (fun _ _ h => h)) (fun _ _ h => h)
  have K2 := hid kk
  have LG : Hid (w.heap.size ≤ g ∧ w.heap.size ≤ Bn ∧ g ≠ Bn) := hid ⟨Nat.le_trans K0.out.size hg, by rw [← hBn]; exact Nat.le_trans K0.out.size k1.size, by have := hb.lt; omega⟩
  have G12 := hid (G1.out.kept kk (fun h => h))
  have d1 := G12.out.cell 0
  simp only [List.getElem?_cons_zero] at d1
  have DX : Hid (∀ w', Kp (fun b => b = g) W2 w' → Blk w' C2 5 (ys.map (Value.int .u8) ++ rest2)) := hid (fun w' k => (G2.out.kept kk (fun h => h)).kept k (fun h => by have h' : C2 = g := h; have := LG.out; have := L2.out; omega))
  clear ow k1 hg hb hn1 hx1 k2 kk c0 CC0 K0 H10
  go_upto_region 6 with fail
  rw [show w1.alloc (.cells #[.slice (some ⟨g, 0, none⟩) n cp] 60) = W2 from hW2.symm]
  clear hW2
  go_wp2
  clear d1
  go_loopw [38] (UnR W2 Bn g zs ys) (fun i _ => n - (intOf i).toNat)
  case atStart => exact ⟨0, by omega, rfl, FL2, hid (Kp.refl _ _)⟩
  case round =>
    obtain ⟨k, hk, rfl, HA, HK⟩ := hrel
    by_cases hlt : k < n
    · have HLT := hid hlt
      obtain ⟨zk, hzk⟩ : ∃ z, orK zs ys k = z := ⟨_, rfl⟩
      have HFk : Hid (FlAt wr Bn g zk) := hid (by rw [← hzk]; exact HA.out)
      have HZL : Hid (zk.length = n) := hid (by rw [← hzk, orK_len]; exact HN.out)
      obtain ⟨cpk, restk, h1, h2, h3, h4⟩ := HFk.out.at'
      rw [HZL.out] at h1 h3
      have H1k := hid h1
      have H2k := hid h2
      obtain ⟨z, hz⟩ : ∃ z, zk[k]?.getD 0 = z := ⟨_, rfl⟩
      obtain ⟨y, hy⟩ : ∃ z, ys[k]?.getD 0 = z := ⟨_, rfl⟩
      have CZ : Hid (wr.cell? ⟨g, k, none⟩ = some (.int .u8 z)) := hid (by
        rw [h2.cell k, List.getElem?_append_left (by rw [List.length_map, HZL.out]; exact hlt), List.getElem?_map, List.getElem?_eq_getElem (by rw [HZL.out]; exact hlt), Option.map_some]
        rw [List.getElem?_eq_getElem (by rw [HZL.out]; exact hlt), Option.getD_some] at hz
        rw [hz])
      have CY : Hid (wr.cell? ⟨C2, k, none⟩ = some (.int .u8 y)) := hid (by
        rw [(DX.out wr HK.out).cell k, List.getElem?_append_left (by rw [List.length_map, HN2.out]; exact hlt), List.getElem?_map, List.getElem?_eq_getElem (by rw [HN2.out]; exact hlt), Option.map_some]
        rw [List.getElem?_eq_getElem (by rw [HN2.out]; exact hlt), Option.getD_some] at hy
        rw [hy])
      obtain ⟨zo, hzo⟩ : ∃ x, bits .or .u8 z y = x := ⟨_, rfl⟩
      have ZO := hid hzo
      unfold maxLen at h4
      have BD : Hid (k < n ∧ n ≤ cpk ∧ n ≤ 1024) := hid ⟨hlt, h3, HSZ.out.2⟩
      have HZO : Hid (0 ≤ zo ∧ zo < 256) := hid (by rw [← hzo]; exact or8_rng z y)
      have HN1 : Hid (orK zs ys (k + 1) = zk.set k zo) := hid (by rw [orK, hzk, hz, hy, hzo])
      have hc2 := HC2.out
      have ca := CY.out
      have d1 : decide ((k : Int) < (n : Int)) = true := decide_eq_true (by omega)
      clear h1 h2 h3 h4 hzk hz hy hzo
      have ha := BD.out
      have c1 := H1k.out.cell 0
      simp only [List.getElem?_cons_zero] at c1
      have c2 := CZ.out
      have e1 := ZO.out
      have hil : k < (zk.map (Value.int .u8) ++ restk).length := by rw [List.length_append, List.length_map, HZL.out]; omega
      have st := store_u8 H2k.out hil zo
      have fz := H2k.out.frozen k
      have HA3 : Hid (FlAt (wr.setCell ⟨g, k, none⟩ (.int .u8 zo)) Bn g (orK zs ys (k + 1))) := hid (by
        rw [HN1.out]
        exact FlAt.set HFk.out k zo (by rw [HZL.out]; exact BD.out.1) HZO.out)
      have HK3 := hid (HK.out.set k (.int .u8 zo))
      go_wp2_with fail
      exact ⟨⟨k + 1, by rw [HN2.out]; omega, by go_num, HA3, HK3⟩, by simp [intOf]; omega⟩
    · obtain rfl : k = n := by have := HN2.out; omega
      have HR : Hid (FlAt wr Bn g (orL zs ys)) := hid (by unfold orL; rw [HN2.out]; exact HA.out)
      have KR : Hid (Kp Nb w wr) := hid (K2.out.trans HK.out (fun i hi h => by have h' : i = g := h; have := LG.out; omega))
      have d1 : decide ((k : Int) < (k : Int)) = false := decide_eq_false (by omega)
      clear HA HK
      go_wp2
      go_ret2
      exact ⟨Bn, g, rfl, HR.out, LG.out.2.1, LG.out.1, KR.out⟩

end Go.Proofs.Ytpgiinogfmhfiaa

namespace Go.Proofs.Ytpgiinogfmhfiaa
open Go.RowKit

theorem orK_get {zs ys : List Int} (hl : zs.length = ys.length) (i : Nat) : ∀ k, k ≤ ys.length → (orK zs ys k)[i]?.getD 0 = if i < k then bits .or .u8 (zs[i]?.getD 0) (ys[i]?.getD 0) else zs[i]?.getD 0
  | 0, _ => by simp [orK]
  | k + 1, hk => by
    have ih := orK_get hl i k (by omega)
    unfold orK
    by_cases e : k = i
    · subst e
      rw [List.getElem?_set_self (by rw [orK_len]; omega), Option.getD_some, ih, if_neg (by omega), if_pos (by omega)]
    · rw [List.getElem?_set_ne e, ih]
      by_cases h : i < k
      · rw [if_pos h, if_pos (by omega)]
      · rw [if_neg h, if_neg (by omega)]
theorem orL_len (zs ys : List Int) : (orL zs ys).length = zs.length := orK_len zs ys _
theorem orL_get {zs ys : List Int} (hl : zs.length = ys.length) (hz : IsBytes zs) (hy : IsBytes ys) (i : Nat) : (orL zs ys)[i]?.getD 0 = (((zs[i]?.getD 0).toNat ||| (ys[i]?.getD 0).toNat : Nat) : Int) := by
  unfold orL
  rw [orK_get hl i _ (Nat.le_refl _)]
  by_cases h : i < ys.length
  · rw [if_pos h, or8_nat _ _ (hz i) (hy i)]
  · rw [if_neg h, List.getElem?_eq_none (by omega), List.getElem?_eq_none (by omega)]
    rfl
theorem orL_bytes {zs ys : List Int} (hl : zs.length = ys.length) (hz : IsBytes zs) (hy : IsBytes ys) : IsBytes (orL zs ys) := fun i => by
  rw [orL_get hl hz hy]
  have h1 := hz i
  have h2 := hy i
  have h3 : (zs[i]?.getD 0).toNat ||| (ys[i]?.getD 0).toNat < 2 ^ 8 := Nat.or_lt_two_pow (by omega) (by omega)
  omega
theorem has_orL {zs ys : List Int} (hl : zs.length = ys.length) (hz : IsBytes zs) (hy : IsBytes ys) (q : Nat) : hasB (orL zs ys) q = (hasB zs q || hasB ys q) := by
  unfold hasB
  rw [orL_get hl hz hy, Int.toNat_natCast, Nat.testBit_or]
theorem may_orL {zs ys : List Int} (hl : zs.length = ys.length) (hz : IsBytes zs) (hy : IsBytes ys) (m : List Int) (h : mayB zs m = true ∨ mayB ys m = true) : mayB (orL zs ys) m = true := by
  rw [mayB_iff (orL_bytes hl hz hy), orL_len]
  intro i hi
  rw [has_orL hl hz hy]
  rcases h with h | h
  · rw [(mayB_iff hz m).1 h i hi]; rfl
  · rw [mayB_iff hy m, ← hl] at h
    rw [h i hi, Bool.or_true]

end Go.Proofs.Ytpgiinogfmhfiaa

namespace Go.Proofs.Ytpgiinogfmhfiaa
open Go.RowKit

theorem union_add {zs : List Int} (hz : IsBytes zs) (h0 : 0 < zs.length) (m : List Int) : orL zs (addL (zerosL zs.length) m) = addL zs m := by
  have hl : (zerosL zs.length).length = zs.length := List.length_replicate
  have hb := addL_bytes (zerosL_bytes zs.length) m
  have he : zs.length = (addL (zerosL zs.length) m).length := by rw [addL_length, hl]
  refine eq_of_has (orL_bytes he hz hb) (addL_bytes hz m) (by rw [orL_len, addL_length]) (fun q => ?_)
  rw [has_orL he hz hb, has_addL hz m h0, has_addL (zerosL_bytes _) m (by rw [hl]; exact h0), has_zero, hl, Bool.false_or]
theorem may_adds {zs : List Int} (hz : IsBytes zs) (h0 : 0 < zs.length) (l : List (List Int)) (m : List Int) (hm : m ∈ l) : mayB (addsL zs l) m = true := by
  rw [mayB_iff (addsL_bytes hz l), addsL_len]
  intro i hi
  rw [has_adds hz h0]
  have : (l.any fun m' => plcB ((8 * zs.length : Nat) : Int) m' (plb ((8 * zs.length : Nat) : Int) m i)) = true := by
    rw [List.any_eq_true]
    refine ⟨m, hm, ?_⟩
    unfold plcB
    rw [List.any_eq_true]
    exact ⟨i, List.mem_range.2 hi, by simp⟩
  rw [this, Bool.or_true]
theorem may_more {zs : List Int} (hz : IsBytes zs) (h0 : 0 < zs.length) (x m : List Int) (h : mayB zs m = true) : mayB (addL zs x) m = true := by
  rw [mayB_iff (addL_bytes hz x), addL_length]
  intro i hi
  rw [has_addL hz x h0, (mayB_iff hz m).1 h i hi]
  rfl
theorem pop_up : ∀ (n : Fin 256) (e : Fin 8), Lib.onesCount n.val ≤ Lib.onesCount (n.val ||| 2 ^ e.val) := by decide +kernel
theorem cnt_up {zs : List Int} (hz : IsBytes zs) (p : Nat) (hp : p < 8 * zs.length) : cntB zs ≤ cntB (setB zs p) := by
  have h := fold_set (fun z => Lib.onesCount z.toNat) zs (p / 8) (bits .or .u8 (zs[p / 8]?.getD 0) (2 ^ (p % 8))) (by omega)
  have hr := hz (p / 8)
  have hpw := pow8_rng (p % 8) (Nat.mod_lt _ (by decide))
  have e2 : ((2 : Int) ^ (p % 8)).toNat = 2 ^ (p % 8) := by
    have : ((2 : Int) ^ (p % 8)) = ((2 ^ (p % 8) : Nat) : Int) := by simp
    rw [this, Int.toNat_natCast]
  have h3 := pop_up ⟨(zs[p / 8]?.getD 0).toNat, by omega⟩ ⟨p % 8, Nat.mod_lt _ (by decide)⟩
  dsimp only at h h3
  rw [or8_nat _ _ hr (by omega), Int.toNat_natCast, e2] at h
  unfold cntB setB
  rw [or8_nat _ _ hr (by omega), e2]
  generalize Lib.onesCount ((zs[p / 8]?.getD 0).toNat ||| 2 ^ (p % 8)) = u at h h3
  generalize Lib.onesCount (zs[p / 8]?.getD 0).toNat = v at h h3
  omega
theorem cnt_addUp {zs : List Int} (hz : IsBytes zs) (m : List Int) (h0 : 0 < zs.length) : ∀ k, cntB zs ≤ cntB (addK zs m ((8 * zs.length : Nat) : Int) k)
  | 0 => Nat.le_refl _
  | k + 1 => by
    have hp := plb_lt ((8 * zs.length : Nat) : Int) m k (by omega)
    rw [addK_succ]
    exact Nat.le_trans (cnt_addUp hz m h0 k) (cnt_up (addK_bytes hz m ((8 * zs.length : Nat) : Int) k) (plb ((8 * zs.length : Nat) : Int) m k) (by rw [addK_length]; omega))
theorem cnt_add_ge {zs : List Int} (hz : IsBytes zs) (m : List Int) (h0 : 0 < zs.length) : cntB zs ≤ cntB (addL zs m) := cnt_addUp hz m h0 4
theorem cnt_add_le {zs : List Int} (hz : IsBytes zs) (m : List Int) (h0 : 0 < zs.length) : cntB (addL zs m) ≤ cntB zs + 4 := cnt_addK hz m h0 4
theorem lack_not {zs : List Int} (hz : IsBytes zs) (h0 : 0 < zs.length) (l mt : List (List Int)) (x : Nat) (h : x ∈ lackT (addsL zs l) mt mt.length) : x < mt.length ∧ markAt mt x ∉ l := by
  unfold lackT at h
  rw [List.mem_filter] at h
  refine ⟨List.mem_range.1 h.1, fun hm => ?_⟩
  have h2 := h.2
  rw [may_adds hz h0 l _ hm] at h2
  cases h2

end Go.Proofs.Ytpgiinogfmhfiaa

namespace Go.Proofs.Ytpgiinogfmhfiaa
open Go.RowKit

theorem wpList_load_on' {P : Program} {d : TypeDesc} {ops : Array Oper} {rest : List Oper} {op : Oper} {a : Act} {w : World} {Q : Exit → Act → World → Prop} (hw : Region.wanted op (yielded ops a.tmps) = true) (ty : TypeId) (x : Operand) (ho : op.op = .load ty x)
    (b o : Nat) (hx : a.eval x = .pointer (some ⟨b, o, none⟩)) (cs : List Value) (hc : w.rangeAt b o cs) (hu : P.underlying ty = some d) (hd : d.isRow = true) (hi : (P.info? ty).map (·.size) = some cs.length)
    (h : wpList P ops Q rest (a.put op.dst (.agg cs.toArray)) w) : wpList P ops Q (op :: rest) a w :=
  wpList_step fun K hK => by rw [if_pos hw]; exact wp_load_mid ty x ho b o hx cs d hc hu hd hi (hK _ _ h)
def HoR (wA : World) (B1 C1 : Nat) (zs : List Int) (ms : List (List Int)) (N : Nat) (i : Value) (wr : World) : Prop := ∃ k : Nat, k ≤ N ∧ i = .int .i64 k ∧ Hid (FlAt wr B1 C1 (addsL zs (ms.take k))) ∧ Hid (Kp (Jb C1) wA wr)
def HpR (wA : World) (N : Nat) (i : Value) (wr : World) : Prop := ∃ k : Nat, k ≤ N ∧ i = .int .i64 k ∧ Hid (Kp Nb wA wr)
/-- What a mark that is laid into a fresh block leaves. -/
theorem fresh_mark {wr W5 : World} {M5 : Nat} (x : List Int) (hx : x.length = 16) (h1 : wr.heap.size = M5) (h2 : W5 = (wr.alloc (.cells #[.int .u8 0, .int .u8 0, .int .u8 0, .int .u8 0, .int .u8 0, .int .u8 0, .int .u8 0, .int .u8 0, .int .u8 0, .int .u8 0, .int .u8 0, .int .u8 0, .int .u8 0, .int .u8 0, .int .u8 0, .int .u8 0] 24)).setCells M5 0 (markL x)) :
    Blk W5 M5 24 (markL x) ∧ Kp Nb wr W5 ∧ (wr.alloc (.cells #[.int .u8 0, .int .u8 0, .int .u8 0, .int .u8 0, .int .u8 0, .int .u8 0, .int .u8 0, .int .u8 0, .int .u8 0, .int .u8 0, .int .u8 0, .int .u8 0, .int .u8 0, .int .u8 0, .int .u8 0, .int .u8 0] 24)).there M5 0 (markL x).toArray.size := by
  have hb0 : Blk (wr.alloc (.cells #[.int .u8 0, .int .u8 0, .int .u8 0, .int .u8 0, .int .u8 0, .int .u8 0, .int .u8 0, .int .u8 0, .int .u8 0, .int .u8 0, .int .u8 0, .int .u8 0, .int .u8 0, .int .u8 0, .int .u8 0, .int .u8 0] 24)) wr.heap.size 24 (markL z16) := Blk.new wr 24 (markL z16)
  rw [h1] at hb0
  refine ⟨by rw [h2]; exact row_set hb0 (by rw [markL_length, hx]; rfl), by rw [h2]; exact Kp.setCells (fun h => by omega) _ _ _ ((Kp.refl Nb wr).alloc _), by rw [List.size_toArray, markL_length, hx]; exact hb0.there 0 16 (Nat.le_refl _)⟩
theorem mark_at {w : World} {D : Nat} {T : TypeId} {cs : List Value} {m : List Int} (h : Blk w D T cs) (hc : (cs.drop 4).take 16 = markL m) : w.rangeAt D 4 (markL m) := fun j v hv => by
  rw [← hc] at hv
  rw [h.cell (4 + j)]
  rw [List.getElem?_take] at hv
  split at hv
  · rwa [List.getElem?_drop] at hv
  · cases hv

set_option maxRecDepth 100000 in
set_option maxHeartbeats 16000000 in
theorem lholds_any (cs : List Value) (n : Int) (vA vB : Value) (ms mt : List (List Int)) (mm : List Int) (w : World) (hc0 : cs[0]? = some (.int .i64 n)) (hc2 : cs[2]? = some vA) (hc3 : cs[3]? = some vB) (hcm : (cs.drop 4).take 16 = markL mm) (hmm : MarkOk mm) (hA : MkSl w vA ms) (hB : MkSl w vB mt) (hn : -9223372036854775808 ≤ n ∧ n < 9223372036854775808) :
    Calls Try.prog 5 #[.agg cs.toArray] w fun e w' => e = .returned (.bool true) ∧ Kp Nb w w' := by
  obtain ⟨yA, dA, rfl⟩ := hA.shape
  obtain ⟨yB, dB, rfl⟩ := hB.shape
  obtain ⟨N, hN⟩ : ∃ N, ms.length = N := ⟨_, rfl⟩
  obtain ⟨Nt, hNt⟩ : ∃ N, mt.length = N := ⟨_, rfl⟩
  rw [hN] at hc2 hA
  rw [hNt] at hc3 hB
  have HNM := hid hN
  have HNT := hid hNt
  have HNR := hid hn
  obtain ⟨D, hD⟩ : ∃ D, w.heap.size = D := ⟨_, rfl⟩
  obtain ⟨W, hW⟩ : ∃ W, W = w.alloc (.cells cs.toArray 27) := ⟨_, rfl⟩
  have H0 : Hid (Blk W D 27 cs) := hid (by rw [hW, ← hD]; exact Blk.new w _ _)
  have k0 : Kp Nb w W := by rw [hW]; exact (Kp.refl Nb w).alloc _
  have K0 := hid k0
  have HA0 := hid (hA.kept k0)
  have HB0 := hid (hB.kept k0)
  have HC0 := hid hc0
  have HC2 := hid hc2
  have HC3 := hid hc3
  have HCM := hid hcm
  have OM := hid hmm
  have MM := hid (mark_infoL mm hmm.len)
  clear hA hB k0 hN hNt hn hc0 hc2 hc3 hcm hmm
  go_enter Try.func5, Try.ntmps5
  go_upto_region 1 with fail
  rw [show w.alloc (.cells cs.toArray 27) = W from hW.symm]
  clear hW hD
  go_wp2_with fail
  refine (lfirst_any _).mono ?_
  rintro e w1 ⟨rfl, k1⟩
  have H1 := hid (H0.out.kept k1 (fun h => h))
  have HA1 := hid (HA0.out.kept k1)
  have HB1 := hid (HB0.out.kept k1)
  have K1 := hid (K0.out.trans k1 (fun _ _ h => h))
  have c0 : w1.cell? ⟨D, 0, none⟩ = some (.int .i64 n) := (H1.out.cell 0).trans HC0.out
  have c2 : w1.cell? ⟨D, 2, none⟩ = some (.slice yA N dA) := (H1.out.cell 2).trans HC2.out
  have c3 : w1.cell? ⟨D, 3, none⟩ = some (.slice yB Nt dB) := (H1.out.cell 3).trans HC3.out
  clear k1 H0 HA0 HB0 K0
  by_cases hl : 60 < N
  · have d1 : decide ((N : Int) > 60) = true := decide_eq_true (by omega)
    go_wp2
    go_ret
    exact ⟨rfl, K1.out⟩
  have d1 : decide ((N : Int) > 60) = false := decide_eq_false (by omega)
  have HN60 : Hid (N ≤ 60) := hid (by omega)
  clear hl
  by_cases hl : 60 < Nt
  · have d2 : decide ((Nt : Int) > 60) = true := decide_eq_true (by omega)
    go_wp2
    go_ret
    exact ⟨rfl, K1.out⟩
  have d2 : decide ((Nt : Int) > 60) = false := decide_eq_false (by omega)
  have HNT60 : Hid (Nt ≤ 60) := hid (by omega)
  clear hl
  cases hf : fitL n
  · have CN : Hid (∀ w, Calls Try.prog 8 #[.int .i64 n] w fun e w' => e = .returned (.tuple #[.pointer none, .int .i64 2]) ∧ w = w') := hid (fun w => lnew_no n w HNR.out.1 HNR.out.2 hf)
    clear hf
    go_wp2_with fail
    refine (CN.out _).mono ?_
    rintro e w2 ⟨rfl, rfl⟩
    go_wp2
    go_ret
    exact ⟨rfl, K1.out⟩
  obtain ⟨t, rfl, t0, t1⟩ := fitL_t hf
  have CN : Hid (∀ w, Calls Try.prog 8 #[.int .i64 ((8 * t : Nat) : Int)] w fun e w' => ∃ B C, e = .returned (.tuple #[.pointer (some ⟨B, 0, none⟩), .int .i64 0]) ∧ FlAt w' B C (zerosL t) ∧ w.heap.size ≤ B ∧ w.heap.size ≤ C ∧ Kp Nb w w') := hid (fun w => lnew_yes t w t0 t1)
  have HT : Hid (8 ≤ t ∧ t ≤ 1024) := hid ⟨t0, t1⟩
  clear hf t0 t1
  go_wp2_with fail
  refine (CN.out _).mono ?_
  rintro e w2 ⟨B1, C1, rfl, f1, l1, l2, k2⟩
  have F1 := hid f1
  have H2 := hid (H1.out.kept k2 (fun h => h))
  have K12 := hid k2
  have L1 := hid (show w1.heap.size ≤ B1 ∧ w1.heap.size ≤ C1 ∧ B1 < w2.heap.size ∧ C1 < w2.heap.size ∧ D < w1.heap.size from ⟨l1, l2, f1.lt.1, f1.lt.2, H1.out.lt⟩)
  have c0 : w2.cell? ⟨D, 0, none⟩ = some (.int .i64 ((8 * t : Nat) : Int)) := (H2.out.cell 0).trans HC0.out
  clear f1 l1 l2 k2 c2 c3 d1 d2
  go_wp2_with fail
  refine (CN.out _).mono ?_
  rintro e w3 ⟨B2, C2, rfl, f2, l1, l2, k3⟩
  have F1' := hid (F1.out.kept k3 (fun h => h) (fun h => h))
  have F2 := hid f2
  have H3 := hid (H2.out.kept k3 (fun h => h))
  have K13 : Hid (Kp Nb w1 w3) := hid (K12.out.trans k3 (fun _ _ h => h))
  have L2 := hid (show w2.heap.size ≤ B2 ∧ w2.heap.size ≤ C2 from ⟨l1, l2⟩)
  have HA3 := hid (HA1.out.kept K13.out)
  have HB3 := hid (HB1.out.kept K13.out)
  have c2 : w3.cell? ⟨D, 2, none⟩ = some (.slice yA N dA) := (H3.out.cell 2).trans HC2.out
  obtain ⟨zs, hzs⟩ : ∃ z, zerosL t = z := ⟨_, rfl⟩
  rw [hzs] at F1' F2
  have HZS := hid hzs
  have HZB : Hid (IsBytes zs) := hid F2.out.ok
  have HZL : Hid (zs.length = t) := hid (by rw [← hzs]; exact List.length_replicate)
  have S0 : Hid (FlAt w3 B1 C1 (addsL zs (ms.take 0))) := hid (by rw [List.take_zero]; exact F1'.out)
  have T0 : Hid (Kp (Jb C1) w3 w3) := hid (Kp.refl _ _)
  have LL : Hid (B1 ≠ C2 ∧ C1 ≠ C2 ∧ C1 ≠ B2) := hid (by have := L1.out; have := L2.out; omega)
  have T13 : Hid (∀ i, i < w1.heap.size → ¬ Jb C1 i ∧ ¬ Jb C2 i) := hid (fun i hi => by have := L1.out; have := L2.out; unfold Jb; omega)
  have W13 : Hid (w1.heap.size ≤ w3.heap.size ∧ w.heap.size ≤ w1.heap.size) := hid ⟨K13.out.size, K1.out.size⟩
  clear hzs f2 l1 l2 k3 F1 c0 H2 K12 CN F1'
  go_wp2
  go_loopw [46] (HoR w3 B1 C1 zs ms N) (fun i _ => N - (intOf i).toNat)
  case atStart => exact ⟨0, Nat.zero_le _, rfl, S0, T0⟩
  case round =>
    clear S0 T0
    obtain ⟨k, hk, rfl, HO, KO⟩ := hrel
    have TJ : Hid (∀ i, i < w1.heap.size → ¬ Jb C1 i) := hid (fun i hi => (T13.out i hi).1)
    by_cases hlt : k < N
    · rcases HA1.out.2 with ⟨_, e0⟩ | ⟨blk, off, cap, e1, hc, hm, hcell⟩
      · have := HNM.out; rw [e0] at this; simp at this; omega
      injection e1 with e1 e7 e2
      subst e1 e2
      clear e7
      rw [HNM.out] at hc
      unfold maxLen at hm
      have R1 := hid (hcell k (by rw [HNM.out]; exact hlt))
      have OX := hid (HA1.out.1 k)
      have HX1 : Hid (addsL zs (ms.take (k + 1)) = addL (addsL zs (ms.take k)) (markAt ms k)) := hid (by
        have hkl : k < ms.length := by rw [HNM.out]; exact hlt
        rw [List.take_succ_eq_append_getElem hkl, addsL_snoc]
        unfold markAt
        rw [List.getElem?_eq_getElem hkl]
        rfl)
      generalize markAt ms k = x at R1 OX HX1
      have MX := hid (mark_infoL x OX.out.len)
      obtain ⟨M5, hM5⟩ : ∃ N, wr.heap.size = N := ⟨_, rfl⟩
      obtain ⟨W5, hW5⟩ : ∃ W, W = (wr.alloc (.cells #[.int .u8 0, .int .u8 0, .int .u8 0, .int .u8 0, .int .u8 0, .int .u8 0, .int .u8 0, .int .u8 0, .int .u8 0, .int .u8 0, .int .u8 0, .int .u8 0, .int .u8 0, .int .u8 0, .int .u8 0, .int .u8 0] 24)).setCells M5 0 (markL x) := ⟨_, rfl⟩
      obtain ⟨d5, k5, th⟩ := fresh_mark x OX.out.len hM5 hW5
      have D5 := hid d5
      have TH := hid th
      have SI : Hid ((Try.prog.info? 24).map (·.size) = some (markL x).toArray.size) := hid (by rw [List.size_toArray]; exact mark_infoL x OX.out.len)
      have ON : Hid ((markL x).toArray.all (·.oneCell') = true) := hid (all_oneCell_toArray (markL_one' x))
      have F15 := hid (HO.out.kept k5 (fun h => h) (fun h => h))
      have K5 : Hid (Kp (Jb C1) w3 W5) := hid (KO.out.trans k5 (fun _ _ h => h.elim))
      have R1r := hid (rng_keptT R1.out ((K13.out.mono (fun _ _ h => h.elim)).trans KO.out (fun _ _ h => h)) (fun i hi => TJ.out i hi))
      have HLT := hid hlt
      clear hcell k5 HO d5 th
      go_upto_region 12 with (first
          | (refine wpList_load_mid (by rfl) 24 (.tmp 48) (by rfl) blk (off + k * 16) (by rfl) (markL x) _ R1r.out under_mark rfl MX.out ?_)
          | (refine wpList_store_mid (by rfl) 24 (.tmp 8) (.tmp 49) (by rfl) M5 0 (markL x).toArray (by rfl) (by rfl) TH.out SI.out ON.out ?_))
      rw [show (wr.alloc (.cells #[.int .u8 0, .int .u8 0, .int .u8 0, .int .u8 0, .int .u8 0, .int .u8 0, .int .u8 0, .int .u8 0, .int .u8 0, .int .u8 0, .int .u8 0, .int .u8 0, .int .u8 0, .int .u8 0, .int .u8 0, .int .u8 0] 24)).setCells M5 0 (markL x) = W5 from hW5.symm]
      clear hW5 hM5
      have D5r := hid (range_of D5.out)
      go_wp2_with (refine wpList_load_mid (by rfl) 24 (.tmp 8) (by rfl) M5 0 (by rfl) (markL x) _ D5r.out under_mark rfl MX.out ?_)
      refine (ladd_any B1 C1 _ x _ F15.out OX.out).mono ?_
      rintro e w6 ⟨rfl, f6, k6⟩
      have F16 : Hid (FlAt w6 B1 C1 (addsL zs (ms.take (k + 1)))) := hid (by rw [HX1.out]; exact f6)
      have K6 : Hid (Kp (Jb C1) w3 w6) := hid (K5.out.trans k6 (fun _ _ h => h))
      clear f6 k6 F15 K5 D5 D5r
      go_wp2
      go_roundw
      case rel => exact ⟨k + 1, HLT.out, by go_num, F16, K6⟩
      case measure => have := HLT.out; simp [intOf]; omega
    · obtain rfl : k = N := by omega
      have htk : ms.take k = ms := List.take_of_length_le (by rw [HNM.out]; exact Nat.le_refl _)
      have h0 : 0 < zs.length := by rw [HZL.out]; have := HT.out; omega
      have HFR := HO.out
      rw [htk] at HFR
      obtain ⟨X, hX⟩ : ∃ x, addsL zs ms = x := ⟨_, rfl⟩
      rw [hX] at HFR
      have HF1 := hid HFR
      have HXL : Hid (X.length = t) := hid (by rw [← hX, addsL_len]; exact HZL.out)
      have HXB : Hid (IsBytes X) := hid HFR.ok
      have HXM : Hid (∀ m ∈ ms, mayB X m = true) := hid (fun m hm => by rw [← hX]; exact may_adds HZB.out h0 ms m hm)
      have HXN : Hid (∀ x ∈ lackT X mt mt.length, x < mt.length ∧ markAt mt x ∉ ms) := hid (fun x hx => by rw [← hX] at hx; exact lack_not HZB.out h0 ms mt x hx)
      have HY1 : Hid (orL X (addL zs mm) = addL X mm) := hid (by
        have hx0 : 0 < X.length := by rw [HXL.out]; have := HT.out; omega
        have h := union_add HXB.out hx0 mm
        rw [HXL.out, HZS.out] at h
        exact h)
      obtain ⟨U, hU⟩ : ∃ u, addL X mm = u := ⟨_, rfl⟩
      have HUM : Hid ((∀ m ∈ ms, mayB U m = true) ∧ mayB U mm = true ∧ cntB X ≤ cntB U ∧ cntB U ≤ cntB X + 4 ∧ cntB X ≤ 8 * t) := hid (by
        have hx0 : 0 < X.length := by rw [HXL.out]; have := HT.out; omega
        have h3 := cntB_le X HXB.out X.length (Nat.le_refl _)
        rw [List.take_length, HXL.out] at h3
        rw [← hU]
        exact ⟨fun m hm => may_more HXB.out hx0 mm m (HXM.out m hm), may_add HXB.out mm hx0, cnt_add_ge HXB.out mm hx0, cnt_add_le HXB.out mm hx0, h3⟩)
      rw [hU] at HY1
      clear htk h0 HFR hX hU HO
      have F2r := hid (F2.out.kept KO.out (fun h => LL.out.2.2 h.symm) (fun h => LL.out.2.1 h.symm))
      have K1r : Hid (Kp (Jb C1) w1 wr) := hid ((K13.out.mono (fun _ _ h => h.elim)).trans KO.out (fun _ _ h => h))
      have H4 := hid (H1.out.kept K1r.out (TJ.out D L1.out.2.2.2.2))
      have RM := hid (mark_at H4.out HCM.out)
      clear KO c2
      go_wp2_with (refine wpList_load_mid (by rfl) 24 (.tmp 55) (by rfl) D 4 (by rfl) (markL mm) _ RM.out under_mark rfl MM.out ?_)
      refine (ladd_any B2 C2 _ mm _ F2r.out OM.out).mono ?_
      rintro e w4 ⟨rfl, f4, k4⟩
      have F24 := hid f4
      have F14 := hid (HF1.out.kept k4 (fun h => LL.out.1 h) (fun h => LL.out.2.1 h))
      have K14 : Hid (Kp (fun b => b = C1 ∨ b = C2) w1 w4) := hid ((K1r.out.mono (fun _ _ h => Or.inl h)).trans k4 (fun _ _ h => Or.inr h))
      clear f4 k4 F2r HF1 K1r H4 RM
      go_wp2_with fail
      refine (lunion_yes B1 C1 B2 C2 X (addL zs mm) _ F14.out F24.out (by rw [HXL.out, addL_length, HZL.out])).mono ?_
      rintro e w5 ⟨B3, C3, rfl, f5, l1, l2, k5⟩
      have F35 : Hid (FlAt w5 B3 C3 U) := hid (by rw [← HY1.out]; exact f5)
      have F15 := hid (F14.out.kept k5 (fun h => h) (fun h => h))
      have K15 : Hid (Kp (fun b => b = C1 ∨ b = C2) w1 w5) := hid (K14.out.trans k5 (fun _ _ h => h.elim))
      have TC : Hid (∀ i, i < w1.heap.size → ¬ (i = C1 ∨ i = C2)) := hid (fun i hi h => by have := T13.out i hi; unfold Jb at this; omega)
      have KW5 : Hid (Kp Nb w w5) := hid (K1.out.trans K15.out (fun i hi h => TC.out i (Nat.lt_of_lt_of_le hi W13.out.2) h))
      have H5 := hid (H1.out.kept K15.out (TC.out D L1.out.2.2.2.2))
      have HA5 := hid (HA1.out.keptT K15.out TC.out)
      have HB5 := hid (HB1.out.keptT K15.out TC.out)
      have c2 : w5.cell? ⟨D, 2, none⟩ = some (.slice yA k dA) := (H5.out.cell 2).trans HC2.out
      have T0 : Hid (Kp Nb w5 w5) := hid (Kp.refl _ _)
      clear f5 l1 l2 k5 F14 F24 K14 K15 F2 H3 HA3 HB3
      go_wp2
      go_loopw [67] (HpR w5 k) (fun i _ => k - (intOf i).toNat)
      case atStart => exact ⟨0, Nat.zero_le _, rfl, T0⟩
      case round =>
        clear T0
        obtain ⟨j, hj, rfl, KO⟩ := hrel
        by_cases hlt : j < k
        · rcases HA5.out.2 with ⟨_, e0⟩ | ⟨blk, off, cap, e1, hc, hm, hcell⟩
          · have := HNM.out; rw [e0] at this; simp at this; omega
          injection e1 with e1 e7 e2
          subst e1 e2
          clear e7
          rw [HNM.out] at hc
          unfold maxLen at hm
          have R1r := hid (range_kept (hcell j (by rw [HNM.out]; exact hlt)) KO.out)
          have OX := hid (HA5.out.1 j)
          have MY : Hid (mayB X (markAt ms j) = true ∧ mayB U (markAt ms j) = true) := hid (by
            have h : markAt ms j ∈ ms := markAt_mem (by rw [HNM.out]; exact hlt)
            exact ⟨HXM.out _ h, HUM.out.1 _ h⟩)
          generalize markAt ms j = x at R1r OX MY
          have MX := hid (mark_infoL x OX.out.len)
          obtain ⟨M5, hM5⟩ : ∃ N, wr.heap.size = N := ⟨_, rfl⟩
          obtain ⟨W5, hW5⟩ : ∃ W, W = (wr.alloc (.cells #[.int .u8 0, .int .u8 0, .int .u8 0, .int .u8 0, .int .u8 0, .int .u8 0, .int .u8 0, .int .u8 0, .int .u8 0, .int .u8 0, .int .u8 0, .int .u8 0, .int .u8 0, .int .u8 0, .int .u8 0, .int .u8 0] 24)).setCells M5 0 (markL x) := ⟨_, rfl⟩
          obtain ⟨d5, k5, th⟩ := fresh_mark x OX.out.len hM5 hW5
          have D5 := hid d5
          have TH := hid th
          have SI : Hid ((Try.prog.info? 24).map (·.size) = some (markL x).toArray.size) := hid (by rw [List.size_toArray]; exact mark_infoL x OX.out.len)
          have ON : Hid ((markL x).toArray.all (·.oneCell') = true) := hid (all_oneCell_toArray (markL_one' x))
          have K5 : Hid (Kp Nb w5 W5) := hid (KO.out.trans k5 (fun _ _ h => h))
          have HLT := hid hlt
          clear hcell k5 KO d5 th
          go_upto_region 19 with (first
          | (refine wpList_load_mid (by rfl) 24 (.tmp 69) (by rfl) blk (off + j * 16) (by rfl) (markL x) _ R1r.out under_mark rfl MX.out ?_)
          | (refine wpList_store_mid (by rfl) 24 (.tmp 12) (.tmp 70) (by rfl) M5 0 (markL x).toArray (by rfl) (by rfl) TH.out SI.out ON.out ?_))
          rw [show (wr.alloc (.cells #[.int .u8 0, .int .u8 0, .int .u8 0, .int .u8 0, .int .u8 0, .int .u8 0, .int .u8 0, .int .u8 0, .int .u8 0, .int .u8 0, .int .u8 0, .int .u8 0, .int .u8 0, .int .u8 0, .int .u8 0, .int .u8 0] 24)).setCells M5 0 (markL x) = W5 from hW5.symm]
          clear hW5 hM5
          have D5r := hid (range_of D5.out)
          go_wp2_with (refine wpList_load_mid (by rfl) 24 (.tmp 12) (by rfl) M5 0 (by rfl) (markL x) _ D5r.out under_mark rfl MX.out ?_)
          refine (lmay_any B1 C1 X x _ (F15.out.kept K5.out (fun h => h) (fun h => h)) OX.out).mono ?_
          rw [MY.out.1]
          rintro e w6 ⟨rfl, k6⟩
          have K6 : Hid (Kp Nb w5 w6) := hid (K5.out.trans k6 (fun _ _ h => h))
          have D6r := hid (range_of (D5.out.kept k6 (fun h => h)))
          clear k6 K5 D5 D5r
          go_wp2_with (refine wpList_load_on' (by first | rfl | kernel_rfl) 24 (.tmp 12) (by rfl) M5 0 (by rfl) (markL x) D6r.out under_mark rfl MX.out ?_)
          refine (lmay_any B3 C3 U x _ (F35.out.kept K6.out (fun h => h) (fun h => h)) OX.out).mono ?_
          rw [MY.out.2]
          rintro e w7 ⟨rfl, k7⟩
          have K7 : Hid (Kp Nb w5 w7) := hid (K6.out.trans k7 (fun _ _ h => h))
          clear k7 K6 D6r
          go_wp2
          go_roundw
          case rel => exact ⟨j + 1, HLT.out, by go_num, K7⟩
          case measure => have := HLT.out; simp [intOf]; omega
        · obtain rfl : j = k := by omega
          have H6 := hid (H5.out.kept KO.out (fun h => h))
          have F16 := hid (F15.out.kept KO.out (fun h => h) (fun h => h))
          have HB6 := hid (HB5.out.kept KO.out)
          have K6 := hid KO.out
          have c3 : wr.cell? ⟨D, 3, none⟩ = some (.slice yB Nt dB) := (H6.out.cell 3).trans HC3.out
          clear KO c2
          go_wp2_with fail
          refine (lacks_rows B1 C1 _ X mt 99 _ F16.out HB6.out (by rw [HNT.out]; have := HNT60.out; omega)).mono ?_
          rintro e w7 ⟨v1, v2, xs, rfl, hxs, -, r2, k7⟩
          have HXS : Hid (∀ i, i < xs.length → markAt mt (xs[i]?.getD mt.length) ∉ ms) := hid (fun i hi => by
            rw [List.getElem?_eq_getElem hi, Option.getD_some]
            have h : xs[i] ∈ (lackT X mt mt.length).take (99 : Int).toNat := hxs ▸ List.getElem_mem hi
            exact (HXN.out _ (List.mem_of_mem_take h)).2)
          obtain ⟨y2, d2, rfl⟩ := r2.shape
          have R2 := hid r2
          have K7 : Hid (Kp Nb w5 w7) := hid (K6.out.trans k7 (fun _ _ h => h))
          have T7 : Hid (Kp Nb w7 w7) := hid (Kp.refl _ _)
          obtain ⟨q, hq⟩ : ∃ q, xs.length = q := ⟨_, rfl⟩
          have HQ := hid hq
          have HA7 := hid (HA5.out.kept K7.out)
          have H7 := hid (H5.out.kept K7.out (fun h => h))
          have hq9 : q ≤ 99 := by rw [← hq, hxs, List.length_take]; exact Nat.min_le_left _ _
          rw [hq]
          clear hxs r2 k7 c3 K6 H6 F16 HB6 hq
          go_wp2
          go_loopw [91] (HpR w7 q) (fun i _ => q - (intOf i).toNat)
          case atStart => exact ⟨0, Nat.zero_le _, rfl, T7⟩
          case round =>
            clear T7
            obtain ⟨i, hi, rfl, KO⟩ := hrel
            by_cases hlt : i < q
            · rcases R2.out with ⟨_, e0⟩ | ⟨blk, off, cap, e1, hc, hm, hcell⟩
              · have := HQ.out; rw [e0] at this; simp at this; omega
              injection e1 with e1 e7 e2
              subst e1 e2
              clear e7
              rw [HQ.out] at hc
              unfold maxLen at hm
              have R1r : Hid (wr.rangeAt blk (off + i * 16) (markL (markAt mt (xs[i]?.getD mt.length)))) := hid (range_kept (hcell i (by rw [HQ.out]; exact hlt)) KO.out)
              have OX := hid (HB5.out.1 (xs[i]?.getD mt.length))
              have MY : Hid (mhasB ms (markAt mt (xs[i]?.getD mt.length)) = false) := hid (decide_eq_false (HXS.out i (by rw [HQ.out]; exact hlt)))
              generalize markAt mt (xs[i]?.getD mt.length) = x at R1r OX MY
              have MX := hid (mark_infoL x OX.out.len)
              obtain ⟨M5, hM5⟩ : ∃ N, wr.heap.size = N := ⟨_, rfl⟩
              obtain ⟨W5, hW5⟩ : ∃ W, W = (wr.alloc (.cells #[.int .u8 0, .int .u8 0, .int .u8 0, .int .u8 0, .int .u8 0, .int .u8 0, .int .u8 0, .int .u8 0, .int .u8 0, .int .u8 0, .int .u8 0, .int .u8 0, .int .u8 0, .int .u8 0, .int .u8 0, .int .u8 0] 24)).setCells M5 0 (markL x) := ⟨_, rfl⟩
              obtain ⟨d5, k5, th⟩ := fresh_mark x OX.out.len hM5 hW5
              have D5 := hid d5
              have TH := hid th
              have SI : Hid ((Try.prog.info? 24).map (·.size) = some (markL x).toArray.size) := hid (by rw [List.size_toArray]; exact mark_infoL x OX.out.len)
              have ON : Hid ((markL x).toArray.all (·.oneCell') = true) := hid (all_oneCell_toArray (markL_one' x))
              have K5 : Hid (Kp Nb w7 W5) := hid (KO.out.trans k5 (fun _ _ h => h))
              have HLT := hid hlt
              clear hcell k5 KO d5 th
              go_upto_region 26 with (first
          | (refine wpList_load_mid (by rfl) 24 (.tmp 93) (by rfl) blk (off + i * 16) (by rfl) (markL x) _ R1r.out under_mark rfl MX.out ?_)
          | (refine wpList_store_mid (by rfl) 24 (.tmp 16) (.tmp 94) (by rfl) M5 0 (markL x).toArray (by rfl) (by rfl) TH.out SI.out ON.out ?_))
              rw [show (wr.alloc (.cells #[.int .u8 0, .int .u8 0, .int .u8 0, .int .u8 0, .int .u8 0, .int .u8 0, .int .u8 0, .int .u8 0, .int .u8 0, .int .u8 0, .int .u8 0, .int .u8 0, .int .u8 0, .int .u8 0, .int .u8 0, .int .u8 0] 24)).setCells M5 0 (markL x) = W5 from hW5.symm]
              clear hW5 hM5
              have D5r := hid (range_of D5.out)
              have c2 : W5.cell? ⟨D, 2, none⟩ = some (.slice yA j dA) := ((H7.out.kept K5.out (fun h => h)).cell 2).trans HC2.out
              go_wp2_with (refine wpList_load_mid (by rfl) 24 (.tmp 16) (by rfl) M5 0 (by rfl) (markL x) _ D5r.out under_mark rfl MX.out ?_)
              refine (rhas_any _ ms x _ (HA7.out.kept K5.out) OX.out).mono ?_
              rw [MY.out]
              rintro e w8 ⟨rfl, k8⟩
              have K8 : Hid (Kp Nb w7 w8) := hid (K5.out.trans k8 (fun _ _ h => h))
              clear k8 K5 D5 D5r c2
              go_wp2
              go_roundw
              case rel => exact ⟨i + 1, HLT.out, by go_num, K8⟩
              case measure => have := HLT.out; simp [intOf]; omega
            · obtain rfl : i = q := by omega
              have K9 : Hid (Kp Nb w5 wr) := hid (K7.out.trans KO.out (fun _ _ h => h))
              have F39 := hid (F35.out.kept K9.out (fun h => h) (fun h => h))
              have F19 := hid (F15.out.kept K9.out (fun h => h) (fun h => h))
              have RM := hid (mark_at (H7.out.kept KO.out (fun h => h)) HCM.out)
              obtain ⟨cx, hcx⟩ : ∃ c, cntB X = c := ⟨_, rfl⟩
              obtain ⟨cu, hcu⟩ : ∃ c, cntB U = c := ⟨_, rfl⟩
              have HCB : Hid (cx ≤ cu ∧ cu ≤ cx + 4 ∧ cx ≤ 8192) := hid (by have h := HUM.out; rw [hcx, hcu] at h; have := HT.out; omega)
              have CU : Hid (∀ w', Kp Nb wr w' → Calls Try.prog 16 #[.pointer (some ⟨B3, 0, none⟩)] w' fun e w'' => e = .returned (.int .i64 (cu : Int)) ∧ w' = w'') := hid (fun w' k => by rw [← hcu]; exact lcount_any B3 C3 U w' (F39.out.kept k (fun h => h) (fun h => h)))
              have CX : Hid (∀ w', Kp Nb wr w' → Calls Try.prog 16 #[.pointer (some ⟨B1, 0, none⟩)] w' fun e w'' => e = .returned (.int .i64 (cx : Int)) ∧ w' = w'') := hid (fun w' k => by rw [← hcx]; exact lcount_any B1 C1 X w' (F19.out.kept k (fun h => h) (fun h => h)))
              clear hcx hcu KO
              go_wp2_with (refine wpList_load_mid (by rfl) 24 (.tmp 101) (by rfl) D 4 (by rfl) (markL mm) _ RM.out under_mark rfl MM.out ?_)
              refine (lmay_any B3 C3 U mm _ F39.out OM.out).mono ?_
              rw [HUM.out.2.1]
              rintro e w10 ⟨rfl, k10⟩
              have K10 := hid k10
              clear k10
              go_wp2_with fail
              refine (CU.out _ K10.out).mono ?_
              rintro e w11 ⟨rfl, rfl⟩
              go_wp2_with fail
              refine (CX.out _ K10.out).mono ?_
              rintro e w12 ⟨rfl, rfl⟩
              have d1 : decide ((cu : Int) ≥ (cx : Int)) = true := decide_eq_true (by have := HCB.out; omega)
              have d1' : cx ≤ cu := HCB.out.1
              have d1'' : (cx : Int) ≤ (cu : Int) := by omega
              go_wp2_with fail
              refine (CU.out _ K10.out).mono ?_
              rintro e w13 ⟨rfl, rfl⟩
              go_wp2_with fail
              refine (CX.out _ K10.out).mono ?_
              rintro e w14 ⟨rfl, rfl⟩
              have hb := HCB.out
              have d2 : decide ((cu : Int) ≤ (cx : Int) + 4) = true := decide_eq_true (by omega)
              have d2' : (cu : Int) ≤ (cx : Int) + 4 := by omega
              have d3' : cu ≤ cx + 4 := by omega
              go_wp2
              go_ret
              exact ⟨rfl, KW5.out.trans (K9.out.trans K10.out (fun _ _ h => h)) (fun _ _ h => h)⟩

end Go.Proofs.Ytpgiinogfmhfiaa
