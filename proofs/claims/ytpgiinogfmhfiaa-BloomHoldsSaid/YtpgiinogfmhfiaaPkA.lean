/-
  Layer 15: filters in memory; walks of Fits, Bits, New. Conditions: ints.
  Layer 15: the walk of Places. Conditions: a mark has sixteen bytes; so many bits as may be.
  Layer 15: walks of New, OnesCount8, Count. Conditions: a filter in memory; an int.
  Layer 15: walks of May and Add. Conditions: a filter in memory; a mark has sixteen bytes. (Printed by gen_bld.py.)
  Layer 15: walks of slices.Clone of marks, of Lacks. Conditions: a filter in memory; at most 100,000 marks.
-/
import Derived.Test.YtpgiinogfmhfiaaIbC
import Derived.Test.YtpgiinogfmhfiaaRowApp
import Derived.Test.YtpgiinogfmhfiaaPenNew
import Derived.Test.YtpgiinogfmhfiaaGhostL
import Derived.Lib.Tables
import Derived.Lib.BitFns
import Derived.Test.YtpgiinogfmhfiaaColl
namespace Go.Proofs.Ytpgiinogfmhfiaa
open Go.RowKit


def fitL (n : Int) : Bool := decide (n.tmod 8 = 0 ∧ 8 ≤ n.tdiv 8 ∧ n.tdiv 8 ≤ 1024)
theorem fitL_t {n : Int} (h : fitL n = true) : ∃ t : Nat, n = ((8 * t : Nat) : Int) ∧ 8 ≤ t ∧ t ≤ 1024 := by
  unfold fitL at h
  obtain ⟨h1, h2, h3⟩ := of_decide_eq_true h
  have := Int.tmod_add_mul_tdiv n 8
  exact ⟨(n.tdiv 8).toNat, by omega, by omega, by omega⟩
theorem fitL_8 (t : Nat) (h0 : 8 ≤ t) (h1 : t ≤ 1024) : fitL ((8 * t : Nat) : Int) = true := by
  unfold fitL
  rw [Int.tmod_eq_emod_of_nonneg (by omega), Int.tdiv_eq_ediv_of_nonneg (by omega)]
  exact decide_eq_true (by omega)
set_option maxHeartbeats 400000 in
theorem lfits_any (n : Int) (w : World) (h0 : -9223372036854775808 ≤ n) (h1 : n < 9223372036854775808) : Calls Try.prog 13 #[.int .i64 n] w fun e w' => e = .returned (.bool (fitL n)) ∧ w = w' := by
  have ht := Int.tmod_add_mul_tdiv n 8
  have hlo : -8 < n.tmod 8 ∧ n.tmod 8 < 8 := by
    have h2 := Int.tmod_lt_of_pos n (show (0 : Int) < 8 by decide)
    have h3 := Int.lt_tmod_of_pos n (show (0 : Int) < 8 by decide)
    exact ⟨h3, h2⟩
  obtain ⟨r, hr⟩ : ∃ r, n.tmod 8 = r := ⟨_, rfl⟩
  obtain ⟨q, hq⟩ : ∃ r, n.tdiv 8 = r := ⟨_, rfl⟩
  rw [hr, hq] at ht
  rw [hr] at hlo
  have hqb : -9223372036854775808 ≤ q ∧ q < 9223372036854775808 := by omega
  have hqw : IntKind.i64.wrap q = q := by rw [IntKind.wrap_i64]; omega
  have HE0 : Hid (fitL n = decide (r = 0 ∧ 8 ≤ q ∧ q ≤ 1024)) := hid (by unfold fitL; rw [hr, hq])
  by_cases c1 : r = 0
  · subst c1
    by_cases c2 : 8 ≤ q
    · by_cases c3 : q ≤ 1024
      · have HE : Hid (fitL n = true) := hid (by rw [HE0.out]; exact decide_eq_true ⟨rfl, c2, c3⟩)
        have d1 : decide (q ≥ 8) = true := decide_eq_true c2
        have d2 : decide (q ≤ 1024) = true := decide_eq_true c3
        clear c2 c3 ht hlo h0 h1 hqb
        go_enter Try.func13, Try.ntmps13
        go_wp2
        go_ret
        exact ⟨by rw [HE.out]; rfl, rfl⟩
      · have HE : Hid (fitL n = false) := hid (by rw [HE0.out]; exact decide_eq_false (fun h => c3 h.2.2))
        have d1 : decide (q ≥ 8) = true := decide_eq_true c2
        have d2 : decide (q ≤ 1024) = false := decide_eq_false c3
        clear c2 c3 ht hlo h0 h1 hqb
        go_enter Try.func13, Try.ntmps13
        go_wp2
        go_ret
        exact ⟨by rw [HE.out]; rfl, rfl⟩
    · have HE : Hid (fitL n = false) := hid (by rw [HE0.out]; exact decide_eq_false (fun h => c2 h.2.1))
      have d1 : decide (q ≥ 8) = false := decide_eq_false c2
      clear c2 ht hlo h0 h1 hqb
      go_enter Try.func13, Try.ntmps13
      go_wp2
      go_ret
      exact ⟨by rw [HE.out]; rfl, rfl⟩
  · have HE : Hid (fitL n = false) := hid (by rw [HE0.out]; exact decide_eq_false (fun h => c1 h.1))
    have d1 : (r == 0) = false := by rw [beq_eq_false_iff_ne]; exact c1
    clear c1 ht h0 h1 hqb
    go_enter Try.func13, Try.ntmps13
    go_wp2
    go_ret
    exact ⟨by rw [HE.out]; rfl, rfl⟩

/-- A filter at block B whose bytes stand in block C. -/
structure FlAt (w : World) (B C : Nat) (zs : List Int) : Prop where
  ok : IsBytes zs
  at' : ∃ cap rest, Blk w B 60 [.slice (some ⟨C, 0, none⟩) zs.length cap] ∧ Blk w C 5 (zs.map (Value.int .u8) ++ rest) ∧ zs.length ≤ cap ∧ cap ≤ maxLen
  size : 8 ≤ zs.length ∧ zs.length ≤ 1024
  ne : B ≠ C
theorem FlAt.kept {S : Nat → Prop} {w w' : World} {B C : Nat} {zs : List Int} (h : FlAt w B C zs) (k : Kp S w w') (hB : ¬ S B) (hC : ¬ S C) : FlAt w' B C zs := by
  obtain ⟨cap, rest, h1, h2, h3⟩ := h.at'
  exact ⟨h.ok, ⟨cap, rest, h1.kept k hB, h2.kept k hC, h3⟩, h.size, h.ne⟩
theorem FlAt.lt {w : World} {B C : Nat} {zs : List Int} (h : FlAt w B C zs) : B < w.heap.size ∧ C < w.heap.size := by
  obtain ⟨cap, rest, h1, h2, h3⟩ := h.at'
  exact ⟨h1.lt, h2.lt⟩
set_option maxHeartbeats 400000 in
theorem lbits_any (B C : Nat) (zs : List Int) (w : World) (h : FlAt w B C zs) : Calls Try.prog 15 #[.pointer (some ⟨B, 0, none⟩)] w fun e w' => e = .returned (.int .i64 ((8 * zs.length : Nat) : Int)) ∧ w = w' := by
  obtain ⟨cap, rest, h1, -, -⟩ := h.at'
  have c0 := h1.cell 0
  simp only [List.getElem?_cons_zero] at c0
  have hs := h.size
  obtain ⟨n, hn⟩ : ∃ n, zs.length = n := ⟨_, rfl⟩
  rw [hn] at c0 hs ⊢
  clear h h1 hn
  go_enter Try.func15, Try.ntmps15
  go_wp2
  go_ret
  exact ⟨by simp, rfl⟩
set_option maxHeartbeats 400000 in
theorem lbits_nil (w : World) : Calls Try.prog 15 #[.pointer none] w fun e w' => e = .returned (.int .i64 0) ∧ w = w' := by
  go_enter Try.func15, Try.ntmps15
  go_wp2
  go_ret
  exact ⟨rfl, rfl⟩

end Go.Proofs.Ytpgiinogfmhfiaa

namespace Go.Proofs.Ytpgiinogfmhfiaa
open Go.RowKit

def hs8 (m : List Int) : Int := hash (seedA 8) (seedB 8) m
def plb (s : Int) (m : List Int) (i : Nat) : Nat := ((hs8 m / 65536 ^ i % 65536) % s).toNat
theorem hs8_range (m : List Int) : 0 ≤ hs8 m ∧ hs8 m < 18446744073709551616 := x64_rng _ _
theorem plb_lt (s : Int) (m : List Int) (i : Nat) (h : 0 < s) : (plb s m i : Int) < s := by
  unfold plb
  have h1 := Int.emod_nonneg (hs8 m / 65536 ^ i % 65536) (show s ≠ 0 by omega)
  have h2 := Int.emod_lt_of_pos (hs8 m / 65536 ^ i % 65536) h
  omega
theorem plb_val (u s : Int) (hu : 0 ≤ u) (h0 : 0 < s) : (wrap64 (u.tmod 65536)).tmod s = (((u % 65536 % s).toNat : Nat) : Int) := by
  have e1 : u.tmod 65536 = u % 65536 := Int.tmod_eq_emod_of_nonneg hu
  have r1 : 0 ≤ u % 65536 ∧ u % 65536 < 65536 := ⟨Int.emod_nonneg _ (by decide), Int.emod_lt_of_pos _ (by decide)⟩
  have e2 : wrap64 (u % 65536) = u % 65536 := by unfold wrap64; omega
  have h1 := Int.emod_nonneg (u % 65536) (show s ≠ 0 by omega)
  rw [e1, e2, Int.tmod_eq_emod_of_nonneg r1.1, Int.toNat_of_nonneg h1]
/-- The first k places, as an array. -/
def plbL (s : Int) (m : List Int) (k : Nat) : List Value := [.int .i64 (if 0 < k then (plb s m 0 : Int) else 0), .int .i64 (if 1 < k then (plb s m 1 : Int) else 0), .int .i64 (if 2 < k then (plb s m 2 : Int) else 0), .int .i64 (if 3 < k then (plb s m 3 : Int) else 0)]
abbrev plbV (s : Int) (m : List Int) : Value := .agg (plbL s m 4).toArray
theorem plbL_zero (s : Int) (m : List Int) : plbL s m 0 = [.int .i64 0, .int .i64 0, .int .i64 0, .int .i64 0] := by unfold plbL; simp
theorem plbL_len (s : Int) (m : List Int) (k : Nat) : (plbL s m k).length = 4 := by unfold plbL; rfl
theorem arr4_info : (Try.prog.info? 39).map (·.size) = some 4 := by kernel_rfl
def PbR (w5 : World) (B : Nat) (s : Int) (m : List Int) (i : Value) (wr : World) : Prop := ∃ k : Nat, k ≤ 4 ∧ i = .int .i64 k ∧ Hid (Blk wr B 39 (plbL s m k)) ∧ Hid (Kp (Jb B) w5 wr)
set_option maxRecDepth 100000 in
set_option maxHeartbeats 4000000 in
theorem lplaces_any (t : Nat) (m : List Int) (w : World) (hm : MarkOk m) (h0 : 8 ≤ t) (h1 : t ≤ 1024) :
    Calls Try.prog 14 #[.int .i64 ((8 * t : Nat) : Int), markV m] w fun e w' => e = .returned (plbV ((8 * t : Nat) : Int) m) ∧ Kp Nb w w' := by
  obtain ⟨s, hs⟩ : ∃ s : Int, ((8 * t : Nat) : Int) = s := ⟨_, rfl⟩
  have hf := fitL_8 t h0 h1
  rw [hs] at hf ⊢
  have hs0 : 64 ≤ s := by omega
  have hs1 : s ≤ 8192 := by omega
  have CF : Hid (∀ w, Calls Try.prog 13 #[.int .i64 s] w fun e w' => e = .returned (.bool true) ∧ w = w') := hid (fun w => by
    have h := lfits_any s w (by omega) (by omega)
    rw [hf] at h
    exact h)
  obtain ⟨sa, hsa⟩ : ∃ s, seedA 8 = s := ⟨_, rfl⟩
  obtain ⟨sb, hsb⟩ : ∃ s, seedB 8 = s := ⟨_, rfl⟩
  obtain ⟨q, hq⟩ : ∃ q, hs8 m = q := ⟨_, rfl⟩
  have CS : Hid (∀ w, Calls Try.prog 32 #[.int .i64 8] w fun e w' => e = .returned (.agg #[.int .u64 sa, .int .u64 sb]) ∧ Kp Nb w w') := hid (fun w => by rw [← hsa, ← hsb]; exact seed_any 8 w)
  have CH : Hid (∀ v w, PsSl w v [m] → Calls Try.prog 31 #[.agg #[.int .u64 sa, .int .u64 sb], v] w fun e w' => e = .returned (.int .u64 q) ∧ Kp Nb w w') := hid (fun v w hp => by
    have h := hash_any (seedA 8) (seedB 8) v [m] w hp (by simp; rw [hm.len]; decide)
    have e : ([m] : List (List Int)).flatten = m := by simp
    have hq' : hash (seedA 8) (seedB 8) m = q := hq
    rw [e, hq', hsa, hsb] at h
    exact h)
  have HQ := hid hq
  have QR := hid (hs8_range m)
  rw [hq] at QR
  obtain ⟨W, hW⟩ : ∃ W, W = ((w.alloc (.cells (markL m).toArray 24)).alloc (.cells #[.int .i64 0, .int .i64 0, .int .i64 0, .int .i64 0] 39)).alloc (.cells #[.int .i64 0, .int .i64 0, .int .i64 0, .int .i64 0] 39) := ⟨_, rfl⟩
  obtain ⟨N, hN⟩ : ∃ N, N = w.heap.size := ⟨_, rfl⟩
  have H3 : Hid (Blk W N 24 (markL m)) := hid (by rw [hW, hN]; exact ((Blk.new w _ _).alloc _).alloc _)
  have H4 : Hid (Blk W (N + 1) 39 [.int .i64 0, .int .i64 0, .int .i64 0, .int .i64 0]) := hid (by
    have h := (Blk.new (w.alloc (.cells (markL m).toArray 24)) 39 [.int .i64 0, .int .i64 0, .int .i64 0, .int .i64 0]).alloc (.cells #[.int .i64 0, .int .i64 0, .int .i64 0, .int .i64 0] 39)
    simp only [World.size_alloc] at h
    rw [hW, hN]
    exact h)
  have H5 : Hid (Blk W (N + 1 + 1) 39 [.int .i64 0, .int .i64 0, .int .i64 0, .int .i64 0]) := hid (by
    have h := Blk.new ((w.alloc (.cells (markL m).toArray 24)).alloc (.cells #[.int .i64 0, .int .i64 0, .int .i64 0, .int .i64 0] 39)) 39 [.int .i64 0, .int .i64 0, .int .i64 0, .int .i64 0]
    simp only [World.size_alloc] at h
    rw [hW, hN]
    exact h)
  have KW : Hid (Kp Nb w W) := hid (by rw [hW]; exact (((Kp.refl Nb w).alloc _).alloc _).alloc _)
  have LN : Hid (w.heap.size ≤ N) := hid (by rw [hN]; exact Nat.le_refl _)
  have HM := hid hm
  have T6 : ¬ s = 0 := by omega
  clear hsa hsb hq hs h0 h1 hm hf
  go_enter Try.func14, Try.ntmps14
  go_wp2_with fail
  refine (CF.out _).mono ?_
  rintro e w1 ⟨rfl, rfl⟩
  go_upto_region 4 with fail
  rw [show ((w.alloc (.cells (markL m).toArray 24)).alloc (.cells #[.int .i64 0, .int .i64 0, .int .i64 0, .int .i64 0] 39)).alloc (.cells #[.int .i64 0, .int .i64 0, .int .i64 0, .int .i64 0] 39) = W from hW.symm, ← hN]
  clear hW hN
  refine region_ghost (g0 := (0 : Nat)) [none, none, none, none, none, none, some 4, none, none, none, none, none, some 0, some 1, some 2, some 3, none, none, none, none, none, none, none, none, none, none, none, none, none, none, none] [[], [(3, none)], [(13, some 1)], [(12, some 0), (14, some 2)], [(15, some 3)]] [some 12, some 13, some 14, some 15, some 6] (fun g => [.agg #[.int .u64 sa, .int .u64 sb], .slice (some ⟨N, 0, none⟩) 16 16, .slice (some ⟨g, 0, none⟩) 1 1, .int .u64 q, .int .u64 q]) [2] (HmS W m) (by kernel_rfl) (by kernel_rfl) (fun g => by kernel_rfl) (by kernel_rfl) ?hS (GFrom.all (n := 5) (by kernel_rfl) ?hstep) ?hend
  case hstep =>
    refine GFrom.cons (GStep.call _ rfl rfl _ rfl (fun g => .agg #[.int .u64 sa, .int .u64 sb]) (fun _ => rfl) (fun _ => trivial) 32 (fun g => #[.int .i64 8]) (fun bs g ev wq hS he hr => ?_) (fun L g wq hd hL hS => ?_)) ?_
    · have hk := he.1; have hf := he.2; clear hr he
      go_simp
    · exact (CS.out wq).mono fun e w' ⟨h1, h2⟩ => ⟨h1, hS.keptN h2⟩
    refine GFrom.cons (GStep.val _ rfl rfl _ rfl (fun g => .slice (some ⟨N, 0, none⟩) 16 16) (fun _ => rfl) (fun _ => trivial) (fun bs g ev wq hS he hr => ?_)) ?_
    · have r0 : ev (.tmp 3) = .pointer (some ⟨N, 0, none⟩) := hr (3, none) (by simp); have hk := he.1; clear hr he
      go_simp
    refine GFrom.cons (GStep.make _ rfl _ rfl (fun _ => trivial) (fun L g ev wq hL hd hcl hS he hr => ?_)) ?_
    · have r0 : ev (.tmp 13) = .slice (some ⟨N, 0, none⟩) 16 16 := hr (13, some 1) (by simp); clear hr he
      have hc := PsSl.one' (w4 := W) hS.kp (by_mark H3.out HM.out) 25
      exact ⟨_, wq.heap.size, _, exec_buildSlice rfl (by simp [r0]) (make_one _ rfl wq), rfl, old_set _ hL rfl, hS.kp.trans ((Kp.refl Nb wq).alloc _) (fun _ _ h => h), fun _ => hc⟩
    refine GFrom.cons (GStep.call _ rfl rfl _ rfl (fun g => .int .u64 q) (fun _ => rfl) (fun _ => trivial) 31 (fun g => #[.agg #[.int .u64 sa, .int .u64 sb], .slice (some ⟨g, 0, none⟩) 1 1]) (fun bs g ev wq hS he hr => ?_) (fun L g wq hd hL hS => ?_)) ?_
    · have r0 : ev (.tmp 12) = .agg #[.int .u64 sa, .int .u64 sb] := hr (12, some 0) (by simp); have r1 : ev (.tmp 14) = .slice (some ⟨g, 0, none⟩) 1 1 := hr (14, some 2) (by simp); have hk := he.1; have hf := he.2; clear hr he
      go_simp
    · exact (CH.out _ wq (hS.sl (by simp [bitsAt, hd 2 (by kernel_rfl)]))).mono fun e w' ⟨h1, h2⟩ => ⟨h1, hS.keptN h2⟩
    refine GFrom.cons (GStep.val _ rfl rfl _ rfl (fun g => .int .u64 q) (fun _ => rfl) (fun _ => trivial) (fun bs g ev wq hS he hr => ?_)) ?_
    · have r0 : ev (.tmp 15) = .int .u64 q := hr (15, some 3) (by simp); have hk := he.1; clear hr he
      go_simp
    exact GFrom.nil
  case hS => exact ⟨(Kp.refl Nb W).drew, fun h => by simp at h⟩
  case hend =>
    intro g w5 h5
    have k5 := h5.kp
    have Q4 := hid (H4.out.kept k5 (fun h => h))
    have Q5 : Hid (Blk w5 (N + 1 + 1) 39 (plbL s m 0)) := hid (by rw [plbL_zero]; exact H5.out.kept k5 (fun h => h))
    have K5 := hid (KW.out.trans k5 (fun _ _ h => h))
    clear h5 k5 H3 H4 H5 KW CS CH CF
    simp only [putAll, List.zip_cons_cons, List.zip_nil_right, List.foldl_cons, List.foldl_nil, Act.put, List.setIfInBounds_toArray, List.set_cons_zero, List.set_cons_succ]
    go_wp2
    go_loopw [16] (PbR w5 (N + 1 + 1) s m) (fun i _ => 4 - (intOf i).toNat)
    case atStart => exact ⟨0, by omega, rfl, Q5, Kp.refl _ _⟩
    case round =>
      clear Q5
      obtain ⟨k, hk, rfl, HA, HK⟩ := hrel
      rcases k with _ | _ | _ | _ | k
      · have c0 := HA.out.cell 0
        have f0 := HA.out.frozen 0
        simp only [plbL, List.getElem?_cons_zero] at c0
        have PV : Hid ((wrap64 ((q).tmod 65536)).tmod s = ((plb s m 0 : Nat) : Int)) := hid (by
          rw [plb_val (q) s (by have := QR.out; omega) (by omega)]
          unfold plb
          rw [HQ.out]
          simp)
        have pv := PV.out
        go_wp2
        have HA3 : Hid (Blk (wr.setCell ⟨N + 1 + 1, 0, none⟩ (.int .i64 ((plb s m 0 : Nat) : Int))) (N + 1 + 1) 39 (plbL s m 1)) := HA.out.set 0 _
        have HK3 := hid (HK.out.set 0 (.int .i64 ((plb s m 0 : Nat) : Int)))
        go_roundw
        case rel => exact ⟨1, by omega, by go_num, HA3, HK3⟩
        case measure => simp [intOf]
      · have c0 := HA.out.cell 1
        have f0 := HA.out.frozen 1
        simp only [plbL, List.getElem?_cons_zero, List.getElem?_cons_succ] at c0
        have PV : Hid ((wrap64 ((q / 65536).tmod 65536)).tmod s = ((plb s m 1 : Nat) : Int)) := hid (by
          rw [plb_val (q / 65536) s (by have := QR.out; omega) (by omega)]
          unfold plb
          rw [HQ.out]
          simp)
        have pv := PV.out
        go_wp2
        have HA3 : Hid (Blk (wr.setCell ⟨N + 1 + 1, 1, none⟩ (.int .i64 ((plb s m 1 : Nat) : Int))) (N + 1 + 1) 39 (plbL s m 2)) := HA.out.set 1 _
        have HK3 := hid (HK.out.set 1 (.int .i64 ((plb s m 1 : Nat) : Int)))
        go_roundw
        case rel => exact ⟨2, by omega, by go_num, HA3, HK3⟩
        case measure => simp [intOf]
      · have c0 := HA.out.cell 2
        have f0 := HA.out.frozen 2
        simp only [plbL, List.getElem?_cons_zero, List.getElem?_cons_succ] at c0
        have PV : Hid ((wrap64 ((q / 4294967296).tmod 65536)).tmod s = ((plb s m 2 : Nat) : Int)) := hid (by
          rw [plb_val (q / 4294967296) s (by have := QR.out; omega) (by omega)]
          unfold plb
          rw [HQ.out]
          simp [show (65536 : Int) ^ 2 = 4294967296 from by decide])
        have pv := PV.out
        go_wp2
        have HA3 : Hid (Blk (wr.setCell ⟨N + 1 + 1, 2, none⟩ (.int .i64 ((plb s m 2 : Nat) : Int))) (N + 1 + 1) 39 (plbL s m 3)) := HA.out.set 2 _
        have HK3 := hid (HK.out.set 2 (.int .i64 ((plb s m 2 : Nat) : Int)))
        go_roundw
        case rel => exact ⟨3, by omega, by go_num, HA3, HK3⟩
        case measure => simp [intOf]
      · have c0 := HA.out.cell 3
        have f0 := HA.out.frozen 3
        simp only [plbL, List.getElem?_cons_zero, List.getElem?_cons_succ] at c0
        have PV : Hid ((wrap64 ((q / 281474976710656).tmod 65536)).tmod s = ((plb s m 3 : Nat) : Int)) := hid (by
          rw [plb_val (q / 281474976710656) s (by have := QR.out; omega) (by omega)]
          unfold plb
          rw [HQ.out]
          simp [show (65536 : Int) ^ 3 = 281474976710656 from by decide])
        have pv := PV.out
        go_wp2
        have HA3 : Hid (Blk (wr.setCell ⟨N + 1 + 1, 3, none⟩ (.int .i64 ((plb s m 3 : Nat) : Int))) (N + 1 + 1) 39 (plbL s m 4)) := HA.out.set 3 _
        have HK3 := hid (HK.out.set 3 (.int .i64 ((plb s m 3 : Nat) : Int)))
        go_roundw
        case rel => exact ⟨4, by omega, by go_num, HA3, HK3⟩
        case measure => simp [intOf]
      · have hk4 : k = 0 := by omega
        subst hk4
        have HP := hid (show Blk wr (N + 1 + 1) 39 (plbL s m 4) from HA.out)
        have Q6 := hid (Q4.out.kept HK.out (fun h => by have h' : N + 1 = N + 1 + 1 := h; omega))
        have K6 := hid (K5.out.trans HK.out (fun i hi h => by have h' : i = N + 1 + 1 := h; have := LN.out; omega))
        have TH : Hid (wr.there (N + 1) 0 (plbL s m 4).toArray.size) := hid (by rw [List.size_toArray, plbL_len]; exact Q6.out.there 0 4 (Nat.le_refl _))
        have SI : Hid ((Try.prog.info? 39).map (·.size) = some (plbL s m 4).toArray.size) := hid (by rw [List.size_toArray, plbL_len]; exact arr4_info)
        have SL : Hid ((Try.prog.info? 39).map (·.size) = some (plbL s m 4).length) := hid (by rw [plbL_len]; exact arr4_info)
        have ON : Hid ((plbL s m 4).toArray.all (·.oneCell') = true) := hid (by simp [plbL, Value.oneCell'])
        have HF : Hid (Blk (wr.setCells (N + 1) 0 (plbL s m 4)) (N + 1) 39 (plbL s m 4)) := hid (row_set Q6.out (plbL_len s m 4))
        have K9 : Hid (Kp Nb w (wr.setCells (N + 1) 0 (plbL s m 4))) := hid (Kp.setCells (fun h => by have := LN.out; omega) _ 0 _ K6.out)
        obtain ⟨P, hP⟩ : ∃ P, P = plbL s m 4 := ⟨_, rfl⟩
        have L3 : Hid (P.length = 4) := hid (by rw [hP]; exact plbL_len s m 4)
        rw [← hP] at HP TH SI SL ON HF K9
        have HPE := hid hP
        clear hP HA hk K6 Q6 T6
        go_wp2_with (first
          | (refine wpList_load_mid (by rfl) 39 (.tmp 5) (by rfl) (N + 1 + 1) 0 (by rfl) P _ (range_of HP.out) Try.underlying39 rfl SL.out ?_)
          | (refine wpList_store_mid (by rfl) 39 (.tmp 4) (.tmp 30) (by rfl) (N + 1) 0 P.toArray (by rfl) (by rfl) TH.out SI.out ON.out ?_))
        have hl := row_loadVar (P := Try.prog) Try.underlying39 rfl SL.out HF.out 0 (fun j _ => by rw [Nat.zero_add])
        refine bodyPost_ret (v := .agg P.toArray) (results_cell rfl _ (N + 1) (by rfl) _ hl) ?_ ?_
        · rfl
        · have hv : (.agg P.toArray : Value) = plbV s m := by rw [HPE.out]
          exact ⟨congrArg Ending.returned hv, K9.out⟩

end Go.Proofs.Ytpgiinogfmhfiaa

namespace Go.Proofs.Ytpgiinogfmhfiaa
open Go.RowKit

theorem byte_zcL : ∃ i z, Try.prog.info? 5 = some i ∧ i.zero = some z ∧ i.size = 1 ∧ i.bytes = 1 ∧ z.cells = #[.int .u8 0] := by
  have h : ((Try.prog.info? 5).map fun i => (i.zero.map fun z => z.cells, i.size, i.bytes)) = some (some #[.int .u8 0], 1, 1) := by kernel_rfl
  obtain ⟨i, hi, h2⟩ := Option.map_eq_some_iff.1 h
  simp only [Prod.mk.injEq] at h2
  obtain ⟨z, hz, hz2⟩ := Option.map_eq_some_iff.1 h2.1
  exact ⟨i, z, hi, hz, h2.2.1, h2.2.2, hz2⟩
theorem made_bytesL (n : Nat) : (madeCells #[Value.int .u8 0] (n * 1)).toList = List.replicate n (Value.int .u8 0) := by
  apply List.ext_getElem?
  intro j
  rcases Nat.lt_or_ge j n with h | h
  · rw [List.getElem?_replicate, if_pos h, Array.getElem?_toList]
    unfold madeCells
    rw [Array.getElem?_map, Array.getElem?_range, if_pos (by omega), Option.map_some]
    simp [Nat.mod_one]
  · rw [List.getElem?_eq_none (by rw [Array.length_toList, size_madeCells]; omega), List.getElem?_eq_none (by rw [List.length_replicate]; exact h)]
theorem make_bytesL (w : World) (n : Nat) (hn : n ≤ 2048) : (Instr.makeSlice 25 (.int .i64 (n : Int)) (.int .i64 (n : Int))).run Try.prog w = .ok (.slice (some ⟨w.heap.size, 0, none⟩) n n) (w.alloc (.cells (List.replicate n (Value.int .u8 0)).toArray 5 (0, 0))) := by
  obtain ⟨i, z, h1, h2, h3, h4, h5⟩ := byte_zcL
  have h := run_make (P := Try.prog) w _ _ i z Try.underlying25 h1 h2 .i64 .i64 n n (by omega) (Int.le_refl _) (by rw [h4]; omega) (by omega)
  rw [Int.toNat_natCast, h3, h5, ← Array.toArray_toList (xs := madeCells _ _), made_bytesL] at h
  exact h
theorem exec_mksliceL {P : Program} {ev : Operand → Value} {o : Oper} {T : TypeId} {x y : Operand} {v v2 r : Value} {w w' : World} (ho : o.op = .makeSlice T x y) (hx : ev x = v) (hy : ev y = v2) (hl : (Instr.makeSlice T v v2).run P w = .ok r w') : (execOp ev o).run P w = .ok (.value r) w' := by
  unfold execOp
  simp only [ho, hx, hy, Sem.run_bind, Sem.run_pure, Result.andThen_ok, hl]
def zerosL (t : Nat) : List Int := List.replicate t 0
set_option maxRecDepth 100000 in
set_option maxHeartbeats 1000000 in
theorem lnew_yes (t : Nat) (w : World) (h0 : 8 ≤ t) (h1 : t ≤ 1024) : Calls Try.prog 8 #[.int .i64 ((8 * t : Nat) : Int)] w fun e w' => ∃ B C, e = .returned (.tuple #[.pointer (some ⟨B, 0, none⟩), .int .i64 0]) ∧ FlAt w' B C (zerosL t) ∧ w.heap.size ≤ B ∧ w.heap.size ≤ C ∧ Kp Nb w w' := by
  obtain ⟨s, hs⟩ : ∃ s : Int, ((8 * t : Nat) : Int) = s := ⟨_, rfl⟩
  have hf := fitL_8 t h0 h1
  rw [hs] at hf ⊢
  have CF : Hid (∀ w, Calls Try.prog 13 #[.int .i64 s] w fun e w' => e = .returned (.bool true) ∧ w = w') := hid (fun w => by
    have h := lfits_any s w (by omega) (by omega)
    rw [hf] at h
    exact h)
  have T1 : s.tdiv 8 = (t : Int) := by rw [Int.tdiv_eq_ediv_of_nonneg (by omega)]; omega
  have T2 : s / 8 = (t : Int) := by omega
  have T3 : (0 : Int) ≤ s := by omega
  have T4 : wrap64 (t : Int) = (t : Int) := by unfold wrap64; omega
  have MK := make_bytesL w t (by omega)
  obtain ⟨N, hN⟩ : ∃ N, w.heap.size = N := ⟨_, rfl⟩
  rw [hN] at MK
  obtain ⟨W, hW⟩ : ∃ W, w.alloc (.cells (List.replicate t (Value.int .u8 0)).toArray 5 (0, 0)) = W := ⟨_, rfl⟩
  rw [hW] at MK
  have HC : Hid (Blk W N 5 (List.replicate t (Value.int .u8 0))) := hid (by rw [← hW, ← hN]; exact Blk.new w _ _)
  have KW : Hid (Kp Nb w W) := hid (by rw [← hW]; exact (Kp.refl Nb w).alloc _)
  have HT : Hid (8 ≤ t ∧ t ≤ 1024) := hid ⟨h0, h1⟩
  have LN : Hid (w.heap.size ≤ N) := hid (Nat.le_of_eq hN)
  clear hs hf h0 h1 hW hN
  go_enter Try.func8, Try.ntmps8
  go_wp2_with fail
  refine (CF.out _).mono ?_
  rintro e w1 ⟨rfl, rfl⟩
  go_wp2_with (refine wpList_val (by rfl) _ _ (exec_mksliceL rfl rfl rfl MK) ?_)
  go_ret2
  refine ⟨_, _, rfl, ⟨fun i => by unfold zerosL; exact IsBytes.zeros t i, ⟨t, [], ?_, ?_, by unfold zerosL; rw [List.length_replicate]; exact Nat.le_refl _, by unfold maxLen; have := HT.out; omega⟩, by unfold zerosL; rw [List.length_replicate]; exact HT.out, fun e => ?_⟩, ?_, LN.out, KW.out.alloc _⟩
  · have h := Blk.new W 60 [.slice (some ⟨N, 0, none⟩) t t]
    unfold zerosL
    rw [List.length_replicate]
    exact h
  · unfold zerosL
    rw [List.append_nil, List.map_replicate]
    exact HC.out.alloc _
  · have := HC.out.lt; omega
  · exact KW.out.size
set_option maxHeartbeats 400000 in
theorem lnew_no (n : Int) (w : World) (h0 : -9223372036854775808 ≤ n) (h1 : n < 9223372036854775808) (hf : fitL n = false) : Calls Try.prog 8 #[.int .i64 n] w fun e w' => e = .returned (.tuple #[.pointer none, .int .i64 2]) ∧ w = w' := by
  have CF : Hid (∀ w, Calls Try.prog 13 #[.int .i64 n] w fun e w' => e = .returned (.bool false) ∧ w = w') := hid (fun w => by
    have h := lfits_any n w h0 h1
    rw [hf] at h
    exact h)
  clear h0 h1 hf
  go_enter Try.func8, Try.ntmps8
  go_wp2_with fail
  refine (CF.out _).mono ?_
  rintro e w1 ⟨rfl, rfl⟩
  go_wp2
  go_ret2
  exact ⟨rfl, rfl⟩
set_option maxRecDepth 100000 in
set_option maxHeartbeats 1000000 in
theorem pop_any (x : Int) (w : World) (h0 : 0 ≤ x) (h1 : x ≤ 255) :
    Calls Try.prog 33 #[.int .u8 x] w fun e w' => e = .returned (.int .i64 (Lib.onesCount x.toNat)) ∧ w = w' := by
  rw [← Lib.pop8_int x h0 h1]
  go_enter Try.func33, Try.ntmps33
  go_wp2
  go_ret
  generalize Lib.pop8 x = p
  exact ⟨by show Ending.returned (Value.int IntKind.i64 (wrap64 p)) = _; unfold wrap64; rfl, rfl⟩

/-- How many bits are set. -/
def cntB (zs : List Int) : Nat := zs.foldl (fun a z => a + Lib.onesCount z.toNat) 0
theorem cntB_snoc (zs : List Int) (z : Int) : cntB (zs ++ [z]) = cntB zs + Lib.onesCount z.toNat := by unfold cntB; rw [List.foldl_append]; rfl
theorem cntB_take (zs : List Int) (k : Nat) (h : k < zs.length) : cntB (zs.take (k + 1)) = cntB (zs.take k) + Lib.onesCount (zs[k]?.getD 0).toNat := by
  rw [List.take_succ_eq_append_getElem h, cntB_snoc, List.getElem?_eq_getElem h, Option.getD_some]
theorem pop_le (z : Int) (h0 : 0 ≤ z) (h1 : z < 256) : Lib.onesCount z.toNat ≤ 8 := by
  have h := Lib.onesCount_le8 ⟨z.toNat, by omega⟩
  exact h
theorem cntB_le (zs : List Int) (hz : IsBytes zs) : ∀ k, k ≤ zs.length → cntB (zs.take k) ≤ 8 * k
  | 0, _ => by rw [List.take_zero]; exact Nat.le_refl _
  | k + 1, h => by
    rw [cntB_take zs k (by omega)]
    have h1 := cntB_le zs hz k (by omega)
    have h2 := pop_le (zs[k]?.getD 0) (hz k).1 (hz k).2
    omega
def CtR (zs : List Int) (n : Nat) (w1 : World) (i c : Value) (wr : World) : Prop := ∃ k : Nat, k ≤ n ∧ i = .int .i64 k ∧ c = .int .i64 (cntB (zs.take k)) ∧ w1 = wr
set_option maxRecDepth 100000 in
set_option maxHeartbeats 1000000 in
theorem lcount_any (B C : Nat) (zs : List Int) (w : World) (h : FlAt w B C zs) : Calls Try.prog 16 #[.pointer (some ⟨B, 0, none⟩)] w fun e w' => e = .returned (.int .i64 (cntB zs : Nat)) ∧ w = w' := by
  obtain ⟨cap, rest, h1, h2, h3, h4⟩ := h.at'
  have c0 := h1.cell 0
  simp only [List.getElem?_cons_zero] at c0
  have HZ := hid h.ok
  have hs := h.size
  have H2 := hid h2
  obtain ⟨n, hn⟩ : ∃ n, zs.length = n := ⟨_, rfl⟩
  rw [hn] at c0 hs h3
  have HN := hid hn
  unfold maxLen at h4
  have HS := hid hs
  clear h h1 h2 hn
  go_enter Try.func16, Try.ntmps16
  go_wp2
  go_loopw [13, 3] (CtR zs n w) (fun i _ _ => n - (intOf i).toNat)
  case atStart => exact ⟨0, Nat.zero_le _, rfl, rfl, rfl⟩
  case round =>
    obtain ⟨k, hk, rfl, rfl, rfl⟩ := hrel
    by_cases hlt : k < n
    · obtain ⟨z, hz⟩ : ∃ z, zs[k]?.getD 0 = z := ⟨_, rfl⟩
      have hzr : 0 ≤ z ∧ z < 256 := by rw [← hz]; exact HZ.out k
      have cz : w.cell? ⟨C, k, none⟩ = some (.int .u8 z) := by
        rw [H2.out.cell k, List.getElem?_append_left (by rw [List.length_map, HN.out]; exact hlt), List.getElem?_map, List.getElem?_eq_getElem (by rw [HN.out]; exact hlt), Option.map_some]
        rw [List.getElem?_eq_getElem (by rw [HN.out]; exact hlt), Option.getD_some] at hz
        rw [hz]
      have CP : Hid (∀ w, Calls Try.prog 33 #[.int .u8 z] w fun e w' => e = .returned (.int .i64 (Lib.onesCount z.toNat)) ∧ w = w') := hid (fun w => pop_any z w hzr.1 (by omega))
      have HT := hid (cntB_take zs k (by rw [HN.out]; exact hlt))
      rw [hz] at HT
      have hp8 := pop_le z hzr.1 hzr.2
      have hc8 := cntB_le zs HZ.out k (by rw [HN.out]; exact hk)
      obtain ⟨p, hp⟩ : ∃ p, Lib.onesCount z.toNat = p := ⟨_, rfl⟩
      obtain ⟨c, hcc⟩ : ∃ c, cntB (zs.take k) = c := ⟨_, rfl⟩
      rw [hp] at CP HT hp8
      rw [hcc] at HT hc8 ⊢
      clear hz hp hcc
      go_wp2_with fail
      refine (CP.out _).mono ?_
      rintro e w2 ⟨rfl, rfl⟩
      go_wp2
      go_roundw
      case rel => exact ⟨k + 1, by omega, by go_num, by rw [HT.out]; go_num, rfl⟩
      case measure => simp [intOf]; omega
    · obtain rfl : k = n := by omega
      have e : zs.take k = zs := List.take_of_length_le (by rw [HN.out]; exact Nat.le_refl _)
      rw [e]
      go_wp2
      go_ret
      exact ⟨rfl, rfl⟩

end Go.Proofs.Ytpgiinogfmhfiaa

namespace Go.Proofs.Ytpgiinogfmhfiaa
open Go.RowKit

def bitB (zs : List Int) (p : Nat) : Int := zs[p / 8]?.getD 0 / 2 ^ (p % 8) % 2
def mayB (zs m : List Int) : Bool := (List.range 4).all fun i => bitB zs (plb ((8 * zs.length : Nat) : Int) m i) == 1
theorem and_one (a : Int) (h : 0 ≤ a ∧ a < 256) : bits .and .u8 a 1 = a % 2 := by
  have hA : (BitVec.ofInt 8 a).toNat = a.toNat := by rw [BitVec.toNat_ofInt]; omega
  have hB : bits .and .u8 a 1 = IntKind.u8.wrap (((BitVec.ofInt 8 a &&& BitVec.ofInt 8 1).toNat : Nat) : Int) := rfl
  have hC : (BitVec.ofInt 8 a &&& BitVec.ofInt 8 1).toNat = a.toNat % 2 := by
    rw [BitVec.toNat_and, hA]
    exact Nat.and_one_is_mod _
  rw [hB, hC, IntKind.wrap_u8]
  omega
theorem shr_rng (z : Int) (e : Nat) (h : 0 ≤ z ∧ z < 256) : 0 ≤ z / 2 ^ e ∧ z / 2 ^ e < 256 := by
  have hp : (0 : Int) < 2 ^ e := Int.pow_pos (by decide)
  refine ⟨Int.ediv_nonneg h.1 (by omega), ?_⟩
  have := Int.ediv_le_self (2 ^ e : Int) h.1
  omega
def MaR (zs m : List Int) (s : Int) (w1 : World) (i : Value) (wr : World) : Prop := ∃ k : Nat, k ≤ 4 ∧ i = .int .i64 k ∧ w1 = wr ∧ ∀ i, i < k → bitB zs (plb s m i) = 1
theorem idx_arr4_0 (p0 p1 p2 p3 : Nat) (w : World) : (Instr.index 39 (.agg #[.int .i64 (p0 : Int), .int .i64 (p1 : Int), .int .i64 (p2 : Int), .int .i64 (p3 : Int)]) (.int .i64 0)).run Try.prog w = .ok (.int .i64 (p0 : Int)) w := by kernel_rfl
theorem idx_arr4_1 (p0 p1 p2 p3 : Nat) (w : World) : (Instr.index 39 (.agg #[.int .i64 (p0 : Int), .int .i64 (p1 : Int), .int .i64 (p2 : Int), .int .i64 (p3 : Int)]) (.int .i64 1)).run Try.prog w = .ok (.int .i64 (p1 : Int)) w := by kernel_rfl
theorem idx_arr4_2 (p0 p1 p2 p3 : Nat) (w : World) : (Instr.index 39 (.agg #[.int .i64 (p0 : Int), .int .i64 (p1 : Int), .int .i64 (p2 : Int), .int .i64 (p3 : Int)]) (.int .i64 2)).run Try.prog w = .ok (.int .i64 (p2 : Int)) w := by kernel_rfl
theorem idx_arr4_3 (p0 p1 p2 p3 : Nat) (w : World) : (Instr.index 39 (.agg #[.int .i64 (p0 : Int), .int .i64 (p1 : Int), .int .i64 (p2 : Int), .int .i64 (p3 : Int)]) (.int .i64 3)).run Try.prog w = .ok (.int .i64 (p3 : Int)) w := by kernel_rfl
set_option maxRecDepth 100000 in
set_option maxHeartbeats 4000000 in
theorem lmay_any (B C : Nat) (zs m : List Int) (w : World) (h : FlAt w B C zs) (hm : MarkOk m) :
    Calls Try.prog 17 #[.pointer (some ⟨B, 0, none⟩), markV m] w fun e w' => e = .returned (.bool (mayB zs m)) ∧ Kp Nb w w' := by
  have HM := hid hm
  obtain ⟨N, hN⟩ : ∃ N, w.heap.size = N := ⟨_, rfl⟩
  obtain ⟨W, hW⟩ : ∃ W, W = w.alloc (.cells (markL m).toArray 24) := ⟨_, rfl⟩
  have H3 : Hid (Blk W N 24 (markL m)) := hid (by rw [hW, ← hN]; exact Blk.new w _ _)
  have kW : Kp Nb w W := by rw [hW]; exact (Kp.refl Nb w).alloc _
  have KW := hid kW
  have HF := hid (h.kept kW (fun h => h) (fun h => h))
  obtain ⟨n, hn⟩ : ∃ n, zs.length = n := ⟨_, rfl⟩
  have hs8 := h.size
  have HNZ := hid hn
  have HSZ : Hid (8 ≤ n ∧ n ≤ 1024) := hid (by rw [← hn]; exact hs8)
  have HZ := hid h.ok
  obtain ⟨s, hs⟩ : ∃ s : Int, ((8 * n : Nat) : Int) = s := ⟨_, rfl⟩
  have CB : Hid (∀ w', Kp Nb W w' → Calls Try.prog 15 #[.pointer (some ⟨B, 0, none⟩)] w' fun e w'' => e = .returned (.int .i64 s) ∧ w' = w'') := hid (fun w' k => by
    have h2 := lbits_any B C zs w' (HF.out.kept k (fun h => h) (fun h => h))
    rw [hn, hs] at h2
    exact h2)
  obtain ⟨p0, hp0⟩ : ∃ p, plb s m 0 = p := ⟨_, rfl⟩
  obtain ⟨p1, hp1⟩ : ∃ p, plb s m 1 = p := ⟨_, rfl⟩
  obtain ⟨p2, hp2⟩ : ∃ p, plb s m 2 = p := ⟨_, rfl⟩
  obtain ⟨p3, hp3⟩ : ∃ p, plb s m 3 = p := ⟨_, rfl⟩
  have CP : Hid (∀ w, Calls Try.prog 14 #[.int .i64 s, markV m] w fun e w' => e = .returned (.agg #[.int .i64 (p0 : Int), .int .i64 (p1 : Int), .int .i64 (p2 : Int), .int .i64 (p3 : Int)]) ∧ Kp Nb w w') := hid (fun w => by
    have h2 := lplaces_any n m w hm (by omega) (by omega)
    rw [hs] at h2
    have e : plbV s m = .agg #[.int .i64 (p0 : Int), .int .i64 (p1 : Int), .int .i64 (p2 : Int), .int .i64 (p3 : Int)] := by unfold plbV plbL; simp [hp0, hp1, hp2, hp3]
    rw [e] at h2
    exact h2)
  have HP : Hid (plb s m 0 = p0 ∧ plb s m 1 = p1 ∧ plb s m 2 = p2 ∧ plb s m 3 = p3) := hid ⟨hp0, hp1, hp2, hp3⟩
  have HPB : Hid (p0 < 8 * n ∧ p1 < 8 * n ∧ p2 < 8 * n ∧ p3 < 8 * n) := hid (by
    have b0 := plb_lt s m 0 (by omega)
    have b1 := plb_lt s m 1 (by omega)
    have b2 := plb_lt s m 2 (by omega)
    have b3 := plb_lt s m 3 (by omega)
    omega)
  have HS := hid hs
  have HMB : Hid (mayB zs m = (List.range 4).all fun i => bitB zs (plb s m i) == 1) := hid (by unfold mayB; rw [hn, hs])
  have LN : Hid (w.heap.size ≤ N) := hid (Nat.le_of_eq hN)
  have LBC : Hid (B < N ∧ C < N) := hid (by have := h.lt; rw [hN] at this; exact this)
  clear kW hs8 hn hs hp0 hp1 hp2 hp3 h hm
  go_enter Try.func17, Try.ntmps17
  go_upto_region 3 with fail
  rw [show w.alloc (.cells (markL m).toArray 24) = W from hW.symm]
  clear hW hN
  refine region_vals2 [none, none, none, none, none, none, none, none, none, some 0, some 1, some 2, some 3, some 4, none, none, none, none, none, none, none, none, none, none, none, none, none, none, none, none] [[(0, none)], [(9, some 0)], [(3, none)], [(10, some 1), (11, some 2)], []] [some 9, some 10, some 11, some 12, some 13] [.pointer (some ⟨B, 0, none⟩), .int .i64 s, markV m, .agg #[.int .i64 (p0 : Int), .int .i64 (p1 : Int), .int .i64 (p2 : Int), .int .i64 (p3 : Int)], .int .i64 0] (fun w' => Hid (Kp Nb W w')) (by kernel_rfl) (by kernel_rfl) (by kernel_rfl) ?hS (VFrom.all (n := 5) (by kernel_rfl) ?hstep) ?hend
  case hstep =>
    refine VFrom.cons (VStep.val _ rfl _ rfl (.pointer (some ⟨B, 0, none⟩)) rfl trivial (fun ev wq hS he hr => ?_)) ?_
    · have r0 : ev (.tmp 0) = .pointer (some ⟨B, 0, none⟩) := hr (0, none) (by simp); have hk := he.1; clear hr he
      go_simp
    refine VFrom.cons (VStep.call _ rfl _ rfl (.int .i64 s) rfl trivial 15 #[.pointer (some ⟨B, 0, none⟩)] (fun ev wq hS he hr => ?_) (fun wq hS => ?_)) ?_
    · have r0 : ev (.tmp 9) = .pointer (some ⟨B, 0, none⟩) := hr (9, some 0) (by simp); have hk := he.1; have hf := he.2; clear hr he
      go_simp
    · exact (CB.out wq hS.out).mono fun e w' ⟨h1, h2⟩ => ⟨h1, by rw [← h2]; exact hS⟩
    refine VFrom.cons (VStep.val _ rfl _ rfl (markV m) rfl trivial (fun ev wq hS he hr => ?_)) ?_
    · have r0 : ev (.tmp 3) = .pointer (some ⟨N, 0, none⟩) := hr (3, none) (by simp); have hk := he.1; clear hr he
      exact exec_load rfl r0 (load_mark HM.out (range_of (H3.out.kept hS.out (fun h => h))))
    refine VFrom.cons (VStep.call _ rfl _ rfl (.agg #[.int .i64 (p0 : Int), .int .i64 (p1 : Int), .int .i64 (p2 : Int), .int .i64 (p3 : Int)]) rfl trivial 14 #[.int .i64 s, markV m] (fun ev wq hS he hr => ?_) (fun wq hS => ?_)) ?_
    · have r0 : ev (.tmp 10) = .int .i64 s := hr (10, some 1) (by simp); have r1 : ev (.tmp 11) = markV m := hr (11, some 2) (by simp); have hk := he.1; have hf := he.2; clear hr he
      go_simp
    · exact (CP.out wq).mono fun e w' ⟨h1, h2⟩ => ⟨h1, hid (hS.out.trans h2 (fun _ _ h => h))⟩
    refine VFrom.cons (VStep.val _ rfl _ rfl (.int .i64 0) rfl trivial (fun ev wq hS he hr => ?_)) ?_
    · have hk := he.1; clear hr he
      go_simp
    exact VFrom.nil
  case hS => exact hid (Kp.refl Nb W).drew
  case hend =>
    intro w1 k1
    have HF1 := hid (HF.out.kept k1.out (fun h => h) (fun h => h))
    have K1 := hid (KW.out.trans k1.out (fun _ _ h => h))
    clear k1 H3 HF KW CB CP
    simp only [putAll, List.zip_cons_cons, List.zip_nil_right, List.foldl_cons, List.foldl_nil, Act.put, List.setIfInBounds_toArray, List.set_cons_zero, List.set_cons_succ]
    go_wp2
    go_loopw [13] (MaR zs m s w1) (fun i _ => 4 - (intOf i).toNat)
    case atStart => exact ⟨0, by omega, rfl, rfl, fun i hi => by omega⟩
    case round =>
      obtain ⟨k, hk, rfl, rfl, HB⟩ := hrel
      rcases k with _ | _ | _ | _ | k
      · have hb := HPB.out
        have hsz := HSZ.out
        obtain ⟨i, hi⟩ : ∃ i, p0 / 8 = i := ⟨_, rfl⟩
        obtain ⟨e8, he8⟩ : ∃ i, p0 % 8 = i := ⟨_, rfl⟩
        have T1 : (p0 : Int).tdiv 8 = (i : Int) := by rw [Int.tdiv_eq_ediv_of_nonneg (by omega)]; omega
        have T2 : (p0 : Int).tmod 8 = (e8 : Int) := by rw [Int.tmod_eq_emod_of_nonneg (by omega)]; omega
        have T3 : (p0 : Int) / 8 = (i : Int) := by omega
        have T4 : (p0 : Int) % 8 = (e8 : Int) := by omega
        have hin : i < n := by omega
        have he7 : e8 < 8 := by omega
        obtain ⟨cap, rest, h1, h2, h3, h4⟩ := HF1.out.at'
        rw [HNZ.out] at h1 h3
        have c0 := h1.cell 0
        simp only [List.getElem?_cons_zero] at c0
        obtain ⟨z, hz⟩ : ∃ z, zs[i]?.getD 0 = z := ⟨_, rfl⟩
        have hzr : 0 ≤ z ∧ z < 256 := by rw [← hz]; exact HZ.out i
        have cz : w1.cell? ⟨C, i, none⟩ = some (.int .u8 z) := by
          rw [h2.cell i, List.getElem?_append_left (by rw [List.length_map, HNZ.out]; exact hin), List.getElem?_map, List.getElem?_eq_getElem (by rw [HNZ.out]; exact hin), Option.map_some]
          rw [List.getElem?_eq_getElem (by rw [HNZ.out]; exact hin), Option.getD_some] at hz
          rw [hz]
        unfold maxLen at h4
        have hin2 : i ≤ 1024 := by omega
        have HI := hid hi
        have HE8 := hid he8
        have HZV := hid hz
        clear h1 h2 hi he8 hb hsz hz
        have hix := idx_arr4_0 p0 p1 p2 p3
        have hzq : 0 ≤ z / 2 ^ e8 ∧ z / 2 ^ e8 < 256 := shr_rng z e8 hzr
        have hv := and_one (z / 2 ^ e8) hzq
        by_cases hb1 : z / 2 ^ e8 % 2 = 1
        · rw [hb1] at hv
          have RL : Hid (∀ i, i < 0 + 1 → bitB zs (plb s m i) = 1) := hid (fun j hj => by
            rcases Nat.lt_or_ge j 0 with h | h
            · exact HB j (by omega)
            · obtain rfl : j = 0 := by omega
              rw [HP.out.1]
              unfold bitB
              rw [HI.out, HE8.out, HZV.out]
              exact hb1)
          clear hb1 hzq HB
          go_wp2
          exact ⟨⟨0 + 1, by omega, rfl, rfl, RL.out⟩, by simp [intOf]⟩
        · have hv0 : z / 2 ^ e8 % 2 = 0 := by omega
          rw [hv0] at hv
          have RF : Hid (mayB zs m = false) := hid (by
            rw [HMB.out]
            refine List.all_eq_false.2 ⟨0, by simp, ?_⟩
            rw [HP.out.1]
            unfold bitB
            rw [HI.out, HE8.out, HZV.out, hv0]
            decide)
          clear hb1 hv0 hzq HB
          go_wp2
          go_ret
          exact ⟨by rw [RF.out]; rfl, K1.out⟩
      · have hb := HPB.out
        have hsz := HSZ.out
        obtain ⟨i, hi⟩ : ∃ i, p1 / 8 = i := ⟨_, rfl⟩
        obtain ⟨e8, he8⟩ : ∃ i, p1 % 8 = i := ⟨_, rfl⟩
        have T1 : (p1 : Int).tdiv 8 = (i : Int) := by rw [Int.tdiv_eq_ediv_of_nonneg (by omega)]; omega
        have T2 : (p1 : Int).tmod 8 = (e8 : Int) := by rw [Int.tmod_eq_emod_of_nonneg (by omega)]; omega
        have T3 : (p1 : Int) / 8 = (i : Int) := by omega
        have T4 : (p1 : Int) % 8 = (e8 : Int) := by omega
        have hin : i < n := by omega
        have he7 : e8 < 8 := by omega
        obtain ⟨cap, rest, h1, h2, h3, h4⟩ := HF1.out.at'
        rw [HNZ.out] at h1 h3
        have c0 := h1.cell 0
        simp only [List.getElem?_cons_zero] at c0
        obtain ⟨z, hz⟩ : ∃ z, zs[i]?.getD 0 = z := ⟨_, rfl⟩
        have hzr : 0 ≤ z ∧ z < 256 := by rw [← hz]; exact HZ.out i
        have cz : w1.cell? ⟨C, i, none⟩ = some (.int .u8 z) := by
          rw [h2.cell i, List.getElem?_append_left (by rw [List.length_map, HNZ.out]; exact hin), List.getElem?_map, List.getElem?_eq_getElem (by rw [HNZ.out]; exact hin), Option.map_some]
          rw [List.getElem?_eq_getElem (by rw [HNZ.out]; exact hin), Option.getD_some] at hz
          rw [hz]
        unfold maxLen at h4
        have hin2 : i ≤ 1024 := by omega
        have HI := hid hi
        have HE8 := hid he8
        have HZV := hid hz
        clear h1 h2 hi he8 hb hsz hz
        have hix := idx_arr4_1 p0 p1 p2 p3
        have hzq : 0 ≤ z / 2 ^ e8 ∧ z / 2 ^ e8 < 256 := shr_rng z e8 hzr
        have hv := and_one (z / 2 ^ e8) hzq
        by_cases hb1 : z / 2 ^ e8 % 2 = 1
        · rw [hb1] at hv
          have RL : Hid (∀ i, i < 1 + 1 → bitB zs (plb s m i) = 1) := hid (fun j hj => by
            rcases Nat.lt_or_ge j 1 with h | h
            · exact HB j (by omega)
            · obtain rfl : j = 1 := by omega
              rw [HP.out.2.1]
              unfold bitB
              rw [HI.out, HE8.out, HZV.out]
              exact hb1)
          clear hb1 hzq HB
          go_wp2
          exact ⟨⟨1 + 1, by omega, rfl, rfl, RL.out⟩, by simp [intOf]⟩
        · have hv0 : z / 2 ^ e8 % 2 = 0 := by omega
          rw [hv0] at hv
          have RF : Hid (mayB zs m = false) := hid (by
            rw [HMB.out]
            refine List.all_eq_false.2 ⟨1, by simp, ?_⟩
            rw [HP.out.2.1]
            unfold bitB
            rw [HI.out, HE8.out, HZV.out, hv0]
            decide)
          clear hb1 hv0 hzq HB
          go_wp2
          go_ret
          exact ⟨by rw [RF.out]; rfl, K1.out⟩
      · have hb := HPB.out
        have hsz := HSZ.out
        obtain ⟨i, hi⟩ : ∃ i, p2 / 8 = i := ⟨_, rfl⟩
        obtain ⟨e8, he8⟩ : ∃ i, p2 % 8 = i := ⟨_, rfl⟩
        have T1 : (p2 : Int).tdiv 8 = (i : Int) := by rw [Int.tdiv_eq_ediv_of_nonneg (by omega)]; omega
        have T2 : (p2 : Int).tmod 8 = (e8 : Int) := by rw [Int.tmod_eq_emod_of_nonneg (by omega)]; omega
        have T3 : (p2 : Int) / 8 = (i : Int) := by omega
        have T4 : (p2 : Int) % 8 = (e8 : Int) := by omega
        have hin : i < n := by omega
        have he7 : e8 < 8 := by omega
        obtain ⟨cap, rest, h1, h2, h3, h4⟩ := HF1.out.at'
        rw [HNZ.out] at h1 h3
        have c0 := h1.cell 0
        simp only [List.getElem?_cons_zero] at c0
        obtain ⟨z, hz⟩ : ∃ z, zs[i]?.getD 0 = z := ⟨_, rfl⟩
        have hzr : 0 ≤ z ∧ z < 256 := by rw [← hz]; exact HZ.out i
        have cz : w1.cell? ⟨C, i, none⟩ = some (.int .u8 z) := by
          rw [h2.cell i, List.getElem?_append_left (by rw [List.length_map, HNZ.out]; exact hin), List.getElem?_map, List.getElem?_eq_getElem (by rw [HNZ.out]; exact hin), Option.map_some]
          rw [List.getElem?_eq_getElem (by rw [HNZ.out]; exact hin), Option.getD_some] at hz
          rw [hz]
        unfold maxLen at h4
        have hin2 : i ≤ 1024 := by omega
        have HI := hid hi
        have HE8 := hid he8
        have HZV := hid hz
        clear h1 h2 hi he8 hb hsz hz
        have hix := idx_arr4_2 p0 p1 p2 p3
        have hzq : 0 ≤ z / 2 ^ e8 ∧ z / 2 ^ e8 < 256 := shr_rng z e8 hzr
        have hv := and_one (z / 2 ^ e8) hzq
        by_cases hb1 : z / 2 ^ e8 % 2 = 1
        · rw [hb1] at hv
          have RL : Hid (∀ i, i < 2 + 1 → bitB zs (plb s m i) = 1) := hid (fun j hj => by
            rcases Nat.lt_or_ge j 2 with h | h
            · exact HB j (by omega)
            · obtain rfl : j = 2 := by omega
              rw [HP.out.2.2.1]
              unfold bitB
              rw [HI.out, HE8.out, HZV.out]
              exact hb1)
          clear hb1 hzq HB
          go_wp2
          exact ⟨⟨2 + 1, by omega, rfl, rfl, RL.out⟩, by simp [intOf]⟩
        · have hv0 : z / 2 ^ e8 % 2 = 0 := by omega
          rw [hv0] at hv
          have RF : Hid (mayB zs m = false) := hid (by
            rw [HMB.out]
            refine List.all_eq_false.2 ⟨2, by simp, ?_⟩
            rw [HP.out.2.2.1]
            unfold bitB
            rw [HI.out, HE8.out, HZV.out, hv0]
            decide)
          clear hb1 hv0 hzq HB
          go_wp2
          go_ret
          exact ⟨by rw [RF.out]; rfl, K1.out⟩
      · have hb := HPB.out
        have hsz := HSZ.out
        obtain ⟨i, hi⟩ : ∃ i, p3 / 8 = i := ⟨_, rfl⟩
        obtain ⟨e8, he8⟩ : ∃ i, p3 % 8 = i := ⟨_, rfl⟩
        have T1 : (p3 : Int).tdiv 8 = (i : Int) := by rw [Int.tdiv_eq_ediv_of_nonneg (by omega)]; omega
        have T2 : (p3 : Int).tmod 8 = (e8 : Int) := by rw [Int.tmod_eq_emod_of_nonneg (by omega)]; omega
        have T3 : (p3 : Int) / 8 = (i : Int) := by omega
        have T4 : (p3 : Int) % 8 = (e8 : Int) := by omega
        have hin : i < n := by omega
        have he7 : e8 < 8 := by omega
        obtain ⟨cap, rest, h1, h2, h3, h4⟩ := HF1.out.at'
        rw [HNZ.out] at h1 h3
        have c0 := h1.cell 0
        simp only [List.getElem?_cons_zero] at c0
        obtain ⟨z, hz⟩ : ∃ z, zs[i]?.getD 0 = z := ⟨_, rfl⟩
        have hzr : 0 ≤ z ∧ z < 256 := by rw [← hz]; exact HZ.out i
        have cz : w1.cell? ⟨C, i, none⟩ = some (.int .u8 z) := by
          rw [h2.cell i, List.getElem?_append_left (by rw [List.length_map, HNZ.out]; exact hin), List.getElem?_map, List.getElem?_eq_getElem (by rw [HNZ.out]; exact hin), Option.map_some]
          rw [List.getElem?_eq_getElem (by rw [HNZ.out]; exact hin), Option.getD_some] at hz
          rw [hz]
        unfold maxLen at h4
        have hin2 : i ≤ 1024 := by omega
        have HI := hid hi
        have HE8 := hid he8
        have HZV := hid hz
        clear h1 h2 hi he8 hb hsz hz
        have hix := idx_arr4_3 p0 p1 p2 p3
        have hzq : 0 ≤ z / 2 ^ e8 ∧ z / 2 ^ e8 < 256 := shr_rng z e8 hzr
        have hv := and_one (z / 2 ^ e8) hzq
        by_cases hb1 : z / 2 ^ e8 % 2 = 1
        · rw [hb1] at hv
          have RL : Hid (∀ i, i < 3 + 1 → bitB zs (plb s m i) = 1) := hid (fun j hj => by
            rcases Nat.lt_or_ge j 3 with h | h
            · exact HB j (by omega)
            · obtain rfl : j = 3 := by omega
              rw [HP.out.2.2.2]
              unfold bitB
              rw [HI.out, HE8.out, HZV.out]
              exact hb1)
          clear hb1 hzq HB
          go_wp2
          exact ⟨⟨3 + 1, by omega, rfl, rfl, RL.out⟩, by simp [intOf]⟩
        · have hv0 : z / 2 ^ e8 % 2 = 0 := by omega
          rw [hv0] at hv
          have RF : Hid (mayB zs m = false) := hid (by
            rw [HMB.out]
            refine List.all_eq_false.2 ⟨3, by simp, ?_⟩
            rw [HP.out.2.2.2]
            unfold bitB
            rw [HI.out, HE8.out, HZV.out, hv0]
            decide)
          clear hb1 hv0 hzq HB
          go_wp2
          go_ret
          exact ⟨by rw [RF.out]; rfl, K1.out⟩
      · obtain rfl : k = 0 := by omega
        have RT : Hid (mayB zs m = true) := hid (by
          rw [HMB.out]
          refine List.all_eq_true.2 (fun j hj => ?_)
          rw [HB j (List.mem_range.1 hj)]
          rfl)
        clear HB
        go_wp2
        go_ret
        exact ⟨by rw [RT.out]; rfl, K1.out⟩

/-- A bit set. -/
def setB (zs : List Int) (p : Nat) : List Int := zs.set (p / 8) (bits .or .u8 (zs[p / 8]?.getD 0) (2 ^ (p % 8)))
/-- The first k places' bits set. -/
def addK (zs m : List Int) (s : Int) (k : Nat) : List Int := (List.range k).foldl (fun a i => setB a (plb s m i)) zs
def addL (zs m : List Int) : List Int := addK zs m ((8 * zs.length : Nat) : Int) 4
theorem setB_length (zs : List Int) (p : Nat) : (setB zs p).length = zs.length := by unfold setB; rw [List.length_set]
theorem addK_succ (zs m : List Int) (s : Int) (k : Nat) : addK zs m s (k + 1) = setB (addK zs m s k) (plb s m k) := by unfold addK; rw [List.range_succ, List.foldl_append]; rfl
theorem addK_length (zs m : List Int) (s : Int) : ∀ k, (addK zs m s k).length = zs.length
  | 0 => rfl
  | k + 1 => by rw [addK_succ, setB_length, addK_length zs m s k]
theorem addL_length (zs m : List Int) : (addL zs m).length = zs.length := addK_length _ _ _ _
theorem pow8_rng (e : Nat) (h : e < 8) : (1 : Int) ≤ 2 ^ e ∧ (2 : Int) ^ e < 256 := by
  rcases e with _ | _ | _ | _ | _ | _ | _ | _ | e
  all_goals first | (exact ⟨by decide, by decide⟩) | omega
theorem or8_rng (a b : Int) : 0 ≤ bits .or .u8 a b ∧ bits .or .u8 a b < 256 := by
  unfold bits
  show 0 ≤ IntKind.u8.wrap _ ∧ IntKind.u8.wrap _ < _
  rw [IntKind.wrap_u8]
  omega
theorem FlAt.set {w : World} {B C : Nat} {zs : List Int} (h : FlAt w B C zs) (i : Nat) (x : Int) (hi : i < zs.length) (hx : 0 ≤ x ∧ x < 256) : FlAt (w.setCell ⟨C, i, none⟩ (.int .u8 x)) B C (zs.set i x) := by
  obtain ⟨cap, rest, h1, h2, h3, h4⟩ := h.at'
  have kc : Kp (Jb C) w (w.setCell ⟨C, i, none⟩ (.int .u8 x)) := (Kp.refl (Jb C) w).set i _
  refine ⟨fun j => ?_, ⟨cap, rest, ?_, ?_, by rw [List.length_set]; exact h3, h4⟩, by rw [List.length_set]; exact h.size, h.ne⟩
  · by_cases e : i = j
    · subst e; rw [List.getElem?_set_self hi]; exact hx
    · rw [List.getElem?_set_ne e]; exact h.ok j
  · rw [List.length_set]
    exact h1.kept kc (fun e => h.ne e)
  · have h5 := h2.set i (.int .u8 x)
    rw [List.set_append_left _ _ (by rw [List.length_map]; exact hi), ← List.map_set] at h5
    exact h5
def AdR (zs m : List Int) (s : Int) (B C : Nat) (w1 : World) (i : Value) (wr : World) : Prop := ∃ k : Nat, k ≤ 4 ∧ i = .int .i64 k ∧ Hid (FlAt wr B C (addK zs m s k)) ∧ Hid (Kp (Jb C) w1 wr)
set_option maxRecDepth 100000 in
set_option maxHeartbeats 8000000 in
theorem ladd_any (B C : Nat) (zs m : List Int) (w : World) (h : FlAt w B C zs) (hm : MarkOk m) :
    Calls Try.prog 10 #[.pointer (some ⟨B, 0, none⟩), markV m] w fun e w' => e = .returned (.tuple #[]) ∧ FlAt w' B C (addL zs m) ∧ Kp (Jb C) w w' := by
  have HM := hid hm
  obtain ⟨N, hN⟩ : ∃ N, w.heap.size = N := ⟨_, rfl⟩
  obtain ⟨W, hW⟩ : ∃ W, W = w.alloc (.cells (markL m).toArray 24) := ⟨_, rfl⟩
  have H3 : Hid (Blk W N 24 (markL m)) := hid (by rw [hW, ← hN]; exact Blk.new w _ _)
  have kW : Kp Nb w W := by rw [hW]; exact (Kp.refl Nb w).alloc _
  have KW := hid kW
  have HF := hid (h.kept kW (fun h => h) (fun h => h))
  obtain ⟨n, hn⟩ : ∃ n, zs.length = n := ⟨_, rfl⟩
  have hs8 := h.size
  have HNZ := hid hn
  have HSZ : Hid (8 ≤ n ∧ n ≤ 1024) := hid (by rw [← hn]; exact hs8)
  have HZ := hid h.ok
  obtain ⟨s, hs⟩ : ∃ s : Int, ((8 * n : Nat) : Int) = s := ⟨_, rfl⟩
  have CB : Hid (∀ w', Kp Nb W w' → Calls Try.prog 15 #[.pointer (some ⟨B, 0, none⟩)] w' fun e w'' => e = .returned (.int .i64 s) ∧ w' = w'') := hid (fun w' k => by
    have h2 := lbits_any B C zs w' (HF.out.kept k (fun h => h) (fun h => h))
    rw [hn, hs] at h2
    exact h2)
  obtain ⟨p0, hp0⟩ : ∃ p, plb s m 0 = p := ⟨_, rfl⟩
  obtain ⟨p1, hp1⟩ : ∃ p, plb s m 1 = p := ⟨_, rfl⟩
  obtain ⟨p2, hp2⟩ : ∃ p, plb s m 2 = p := ⟨_, rfl⟩
  obtain ⟨p3, hp3⟩ : ∃ p, plb s m 3 = p := ⟨_, rfl⟩
  have CP : Hid (∀ w, Calls Try.prog 14 #[.int .i64 s, markV m] w fun e w' => e = .returned (.agg #[.int .i64 (p0 : Int), .int .i64 (p1 : Int), .int .i64 (p2 : Int), .int .i64 (p3 : Int)]) ∧ Kp Nb w w') := hid (fun w => by
    have h2 := lplaces_any n m w hm (by omega) (by omega)
    rw [hs] at h2
    have e : plbV s m = .agg #[.int .i64 (p0 : Int), .int .i64 (p1 : Int), .int .i64 (p2 : Int), .int .i64 (p3 : Int)] := by unfold plbV plbL; simp [hp0, hp1, hp2, hp3]
    rw [e] at h2
    exact h2)
  have HP : Hid (plb s m 0 = p0 ∧ plb s m 1 = p1 ∧ plb s m 2 = p2 ∧ plb s m 3 = p3) := hid ⟨hp0, hp1, hp2, hp3⟩
  have HPB : Hid (p0 < 8 * n ∧ p1 < 8 * n ∧ p2 < 8 * n ∧ p3 < 8 * n) := hid (by
    have b0 := plb_lt s m 0 (by omega)
    have b1 := plb_lt s m 1 (by omega)
    have b2 := plb_lt s m 2 (by omega)
    have b3 := plb_lt s m 3 (by omega)
    omega)
  have HS := hid hs
  have HMB : Hid (mayB zs m = (List.range 4).all fun i => bitB zs (plb s m i) == 1) := hid (by unfold mayB; rw [hn, hs])
  have LN : Hid (w.heap.size ≤ N) := hid (Nat.le_of_eq hN)
  have LBC : Hid (B < N ∧ C < N) := hid (by have := h.lt; rw [hN] at this; exact this)
  clear kW hs8 hn hs hp0 hp1 hp2 hp3 h hm
  have HAD : Hid (addL zs m = addK zs m s 4) := hid (by unfold addL; rw [HNZ.out, HS.out])
  go_enter Try.func10, Try.ntmps10
  go_upto_region 2 with fail
  rw [show w.alloc (.cells (markL m).toArray 24) = W from hW.symm]
  clear hW hN
  refine region_vals2 [none, none, none, none, none, none, none, none, some 0, some 1, some 2, some 3, some 4, none, none, none, none, none, none, none, none, none, none, none, none, none, none, none, none] [[(0, none)], [(8, some 0)], [(3, none)], [(9, some 1), (10, some 2)], []] [some 8, some 9, some 10, some 11, some 12] [.pointer (some ⟨B, 0, none⟩), .int .i64 s, markV m, .agg #[.int .i64 (p0 : Int), .int .i64 (p1 : Int), .int .i64 (p2 : Int), .int .i64 (p3 : Int)], .int .i64 0] (fun w' => Hid (Kp Nb W w')) (by kernel_rfl) (by kernel_rfl) (by kernel_rfl) ?hS (VFrom.all (n := 5) (by kernel_rfl) ?hstep) ?hend
  case hstep =>
    refine VFrom.cons (VStep.val _ rfl _ rfl (.pointer (some ⟨B, 0, none⟩)) rfl trivial (fun ev wq hS he hr => ?_)) ?_
    · have r0 : ev (.tmp 0) = .pointer (some ⟨B, 0, none⟩) := hr (0, none) (by simp); have hk := he.1; clear hr he
      go_simp
    refine VFrom.cons (VStep.call _ rfl _ rfl (.int .i64 s) rfl trivial 15 #[.pointer (some ⟨B, 0, none⟩)] (fun ev wq hS he hr => ?_) (fun wq hS => ?_)) ?_
    · have r0 : ev (.tmp 8) = .pointer (some ⟨B, 0, none⟩) := hr (8, some 0) (by simp); have hk := he.1; have hf := he.2; clear hr he
      go_simp
    · exact (CB.out wq hS.out).mono fun e w' ⟨h1, h2⟩ => ⟨h1, by rw [← h2]; exact hS⟩
    refine VFrom.cons (VStep.val _ rfl _ rfl (markV m) rfl trivial (fun ev wq hS he hr => ?_)) ?_
    · have r0 : ev (.tmp 3) = .pointer (some ⟨N, 0, none⟩) := hr (3, none) (by simp); have hk := he.1; clear hr he
      exact exec_load rfl r0 (load_mark HM.out (range_of (H3.out.kept hS.out (fun h => h))))
    refine VFrom.cons (VStep.call _ rfl _ rfl (.agg #[.int .i64 (p0 : Int), .int .i64 (p1 : Int), .int .i64 (p2 : Int), .int .i64 (p3 : Int)]) rfl trivial 14 #[.int .i64 s, markV m] (fun ev wq hS he hr => ?_) (fun wq hS => ?_)) ?_
    · have r0 : ev (.tmp 9) = .int .i64 s := hr (9, some 1) (by simp); have r1 : ev (.tmp 10) = markV m := hr (10, some 2) (by simp); have hk := he.1; have hf := he.2; clear hr he
      go_simp
    · exact (CP.out wq).mono fun e w' ⟨h1, h2⟩ => ⟨h1, hid (hS.out.trans h2 (fun _ _ h => h))⟩
    refine VFrom.cons (VStep.val _ rfl _ rfl (.int .i64 0) rfl trivial (fun ev wq hS he hr => ?_)) ?_
    · have hk := he.1; clear hr he
      go_simp
    exact VFrom.nil
  case hS => exact hid (Kp.refl Nb W).drew
  case hend =>
    intro w1 k1
    have HF1 : Hid (FlAt w1 B C (addK zs m s 0)) := hid (HF.out.kept k1.out (fun h => h) (fun h => h))
    have K1 := hid (KW.out.trans k1.out (fun _ _ h => h))
    clear k1 H3 HF KW CB CP
    simp only [putAll, List.zip_cons_cons, List.zip_nil_right, List.foldl_cons, List.foldl_nil, Act.put, List.setIfInBounds_toArray, List.set_cons_zero, List.set_cons_succ]
    go_wp2
    go_loopw [12] (AdR zs m s B C w1) (fun i _ => 4 - (intOf i).toNat)
    case atStart => exact ⟨0, by omega, rfl, HF1, hid (Kp.refl _ _)⟩
    case round =>
      obtain ⟨k, hk, rfl, HA, HK⟩ := hrel
      rcases k with _ | _ | _ | _ | k
      · have hb := HPB.out
        have hsz := HSZ.out
        have hix := idx_arr4_0 p0 p1 p2 p3
        obtain ⟨ys, hys⟩ : ∃ ys, addK zs m s 0 = ys := ⟨_, rfl⟩
        have HY := hid hys
        have HFk : Hid (FlAt wr B C ys) := hid (by rw [← hys]; exact HA.out)
        have HYL : Hid (ys.length = n) := hid (by rw [← hys, addK_length]; exact HNZ.out)
        obtain ⟨i, hi⟩ : ∃ i, p0 / 8 = i := ⟨_, rfl⟩
        obtain ⟨e8, he8⟩ : ∃ i, p0 % 8 = i := ⟨_, rfl⟩
        have T1 : Hid ((p0 : Int).tdiv 8 = (i : Int)) := hid (by rw [Int.tdiv_eq_ediv_of_nonneg (by omega)]; omega)
        have T2 : Hid ((p0 : Int).tmod 8 = (e8 : Int)) := hid (by rw [Int.tmod_eq_emod_of_nonneg (by omega)]; omega)
        have T3 : Hid ((p0 : Int) / 8 = (i : Int)) := hid (by omega)
        have T4 : Hid ((p0 : Int) % 8 = (e8 : Int)) := hid (by omega)
        have hin : i < n := by omega
        have he7 : e8 < 8 := by omega
        obtain ⟨cap, rest, h1, h2, h3, h4⟩ := HFk.out.at'
        rw [HYL.out] at h1 h3
        have H1 := hid h1
        have H2 := hid h2
        obtain ⟨z, hz⟩ : ∃ z, ys[i]?.getD 0 = z := ⟨_, rfl⟩
        have CZ : Hid (wr.cell? ⟨C, i, none⟩ = some (.int .u8 z)) := hid (by
          rw [h2.cell i, List.getElem?_append_left (by rw [List.length_map, HYL.out]; exact hin), List.getElem?_map, List.getElem?_eq_getElem (by rw [HYL.out]; exact hin), Option.map_some]
          rw [List.getElem?_eq_getElem (by rw [HYL.out]; exact hin), Option.getD_some] at hz
          rw [hz])
        unfold maxLen at h4
        have hin2 : i ≤ 1024 := by omega
        obtain ⟨pw, hpw⟩ : ∃ x : Int, (2 : Int) ^ e8 = x := ⟨_, rfl⟩
        have hpr := pow8_rng e8 he7
        rw [hpw] at hpr
        have PW := hid hpw
        have PW2 : Hid (IntKind.u8.wrap pw = pw) := hid (by rw [IntKind.wrap_u8]; omega)
        have PW3 : Hid (IntKind.u8.wrap (2 ^ e8) = pw) := hid (by rw [hpw]; exact PW2.out)
        obtain ⟨zo, hzo⟩ : ∃ x, bits .or .u8 z pw = x := ⟨_, rfl⟩
        have ZO := hid hzo
        have WI : Hid (IntKind.i64.wrap (i : Int) = (i : Int)) := hid (by rw [IntKind.wrap_i64]; omega)
        have BD := hid (show i < n ∧ n ≤ cap ∧ e8 < 8 ∧ i ≤ 1024 from ⟨hin, h3, he7, hin2⟩)
        have HN1 : Hid (addK zs m s (0 + 1) = ys.set i zo) := hid (by rw [addK_succ, hys, HP.out.1]; unfold setB; rw [hi, he8, hz, hpw, hzo])
        have HZO : Hid (0 ≤ zo ∧ zo < 256) := hid (by rw [← hzo]; exact or8_rng z pw)
        clear h1 h2 h3 h4 hb hsz hys hi he8 hz hpw hzo hin he7 hin2 hpr
        go_upto_region 5 with fail
        refine region_vals_last (n := 13) [none, none, none, none, none, none, none, none, none, none, none, none, none, none, none, some 0, some 1, some 2, some 3, some 4, some 5, some 6, some 7, some 8, some 9, some 10, some 11, some 12, none] [[(0, none)], [(15, some 0)], [(16, some 1)], [(17, some 2)], [(5, none)], [(19, some 4)], [(18, some 3), (20, some 5)], [(21, some 6)], [(5, none)], [(23, some 8)], [(24, some 9)], [(22, some 7), (25, some 10)], [(18, some 3), (20, some 5)], [(27, some 12), (26, some 11)]] [some 15, some 16, some 17, some 18, some 19, some 20, some 21, some 22, some 23, some 24, some 25, some 26, some 27] [.pointer (some ⟨B, 0, none⟩), .pointer (some ⟨B, 0, none⟩), .pointer (some ⟨B, 0, none⟩), .slice (some ⟨C, 0, none⟩) n cap, .int .i64 (p0 : Int), .int .i64 (i : Int), .pointer (some ⟨C, i, none⟩), .int .u8 z, .int .i64 (p0 : Int), .int .i64 (e8 : Int), .int .u8 pw, .int .u8 zo, .pointer (some ⟨C, i, none⟩)] (fun w' => Hid (Kp Nb wr w')) (by kernel_rfl) (by kernel_rfl) (by kernel_rfl) (by kernel_rfl) ({ dst := none, op := Op.store 5 (Operand.tmp 27) (Operand.tmp 26), type := 0, pos := "bloom.go:65", after := #[{ on := 12, ground := Ground.data }, { on := 11, ground := Ground.data }, { on := 0, ground := Ground.phase }, { on := 1, ground := Ground.phase }, { on := 2, ground := Ground.phase }, { on := 3, ground := Ground.phase }, { on := 4, ground := Ground.phase }, { on := 5, ground := Ground.phase }, { on := 6, ground := Ground.phase }, { on := 7, ground := Ground.phase }, { on := 8, ground := Ground.phase }, { on := 9, ground := Ground.phase }, { on := 10, ground := Ground.phase }, { on := 11, ground := Ground.phase }], guard := none }) rfl rfl (by kernel_rfl) (by kernel_rfl) ?hS (?hstep : VFrom _ _ _ _ _ _ 0 13).start ?hend
        case hstep =>
          refine VFrom.cons (VStep.val _ rfl _ rfl (.pointer (some ⟨B, 0, none⟩)) rfl trivial (fun ev wq hS he hr => ?_)) ?_
          · have r0 : ev (.tmp 0) = .pointer (some ⟨B, 0, none⟩) := hr (0, none) (by simp); have hk := he.1; clear hr he
            go_simp
          refine VFrom.cons (VStep.val _ rfl _ rfl (.pointer (some ⟨B, 0, none⟩)) rfl trivial (fun ev wq hS he hr => ?_)) ?_
          · have r0 : ev (.tmp 15) = .pointer (some ⟨B, 0, none⟩) := hr (15, some 0) (by simp); have hk := he.1; clear hr he
            go_simp
          refine VFrom.cons (VStep.val _ rfl _ rfl (.pointer (some ⟨B, 0, none⟩)) rfl trivial (fun ev wq hS he hr => ?_)) ?_
          · have r0 : ev (.tmp 16) = .pointer (some ⟨B, 0, none⟩) := hr (16, some 1) (by simp); have hk := he.1; clear hr he
            go_simp
          refine VFrom.cons (VStep.val _ rfl _ rfl (.slice (some ⟨C, 0, none⟩) n cap) rfl trivial (fun ev wq hS he hr => ?_)) ?_
          · have r0 : ev (.tmp 17) = .pointer (some ⟨B, 0, none⟩) := hr (17, some 2) (by simp); have hk := he.1; clear hr he
            have c0 := (H1.out.kept hS.out (fun h => h)).cell 0
            go_simp
          refine VFrom.cons (VStep.val _ rfl _ rfl (.int .i64 (p0 : Int)) rfl trivial (fun ev wq hS he hr => ?_)) ?_
          · have r0 : ev (.tmp 5) = .int .i64 (p0 : Int) := hr (5, none) (by simp); have hk := he.1; clear hr he
            go_simp
          refine VFrom.cons (VStep.val _ rfl _ rfl (.int .i64 (i : Int)) rfl trivial (fun ev wq hS he hr => ?_)) ?_
          · have r0 : ev (.tmp 19) = .int .i64 (p0 : Int) := hr (19, some 4) (by simp); have hk := he.1; clear hr he
            have e1 := T1.out; have e2 := BD.out; have e3 := T3.out; have e4 := WI.out
            go_simp
          refine VFrom.cons (VStep.val _ rfl _ rfl (.pointer (some ⟨C, i, none⟩)) rfl trivial (fun ev wq hS he hr => ?_)) ?_
          · have r0 : ev (.tmp 18) = .slice (some ⟨C, 0, none⟩) n cap := hr (18, some 3) (by simp); have r1 : ev (.tmp 20) = .int .i64 (i : Int) := hr (20, some 5) (by simp); have hk := he.1; clear hr he
            have e1 := BD.out
            go_simp
          refine VFrom.cons (VStep.val _ rfl _ rfl (.int .u8 z) rfl trivial (fun ev wq hS he hr => ?_)) ?_
          · have r0 : ev (.tmp 21) = .pointer (some ⟨C, i, none⟩) := hr (21, some 6) (by simp); have hk := he.1; clear hr he
            have c0 := hS.out.cell CZ.out (fun h => h)
            go_simp
          refine VFrom.cons (VStep.val _ rfl _ rfl (.int .i64 (p0 : Int)) rfl trivial (fun ev wq hS he hr => ?_)) ?_
          · have r0 : ev (.tmp 5) = .int .i64 (p0 : Int) := hr (5, none) (by simp); have hk := he.1; clear hr he
            go_simp
          refine VFrom.cons (VStep.val _ rfl _ rfl (.int .i64 (e8 : Int)) rfl trivial (fun ev wq hS he hr => ?_)) ?_
          · have r0 : ev (.tmp 23) = .int .i64 (p0 : Int) := hr (23, some 8) (by simp); have hk := he.1; clear hr he
            have e1 := T2.out; have e2 := BD.out; have e3 := T4.out
            go_simp
          refine VFrom.cons (VStep.val _ rfl _ rfl (.int .u8 pw) rfl trivial (fun ev wq hS he hr => ?_)) ?_
          · have r0 : ev (.tmp 24) = .int .i64 (e8 : Int) := hr (24, some 9) (by simp); have hk := he.1; clear hr he
            have e1 := PW.out; have e2 := BD.out; have e3 := PW2.out; have e4 := PW3.out
            go_simp
          refine VFrom.cons (VStep.val _ rfl _ rfl (.int .u8 zo) rfl trivial (fun ev wq hS he hr => ?_)) ?_
          · have r0 : ev (.tmp 22) = .int .u8 z := hr (22, some 7) (by simp); have r1 : ev (.tmp 25) = .int .u8 pw := hr (25, some 10) (by simp); have hk := he.1; clear hr he
            have e1 := ZO.out
            go_simp
          refine VFrom.cons (VStep.val _ rfl _ rfl (.pointer (some ⟨C, i, none⟩)) rfl trivial (fun ev wq hS he hr => ?_)) ?_
          · have r0 : ev (.tmp 18) = .slice (some ⟨C, 0, none⟩) n cap := hr (18, some 3) (by simp); have r1 : ev (.tmp 20) = .int .i64 (i : Int) := hr (20, some 5) (by simp); have hk := he.1; clear hr he
            have e1 := BD.out
            go_simp
          exact VFrom.nil
        case hS => exact hid (Kp.refl Nb wr).drew
        case hend =>
          intro af wy haf kh
          have HE := H2.out.kept kh.out (fun h => h)
          have hil : i < (ys.map (Value.int .u8) ++ rest).length := by rw [List.length_append, List.length_map, HYL.out]; have := BD.out; omega
          have HA3 : Hid (FlAt (wy.setCell ⟨C, i, none⟩ (.int .u8 zo)) B C (addK zs m s (0 + 1))) := hid (by
            rw [HN1.out]
            refine FlAt.set (HFk.out.kept kh.out (fun h => h) (fun h => h)) i zo (by rw [HYL.out]; exact BD.out.1) HZO.out)
          have HK3 := hid ((HK.out.trans kh.out (fun _ _ h => h.elim)).set i (.int .u8 zo))
          refine wp_store_at 5 (.tmp 27) (.tmp 26) rfl (p := ⟨C, i, none⟩) (v := .int .u8 zo) (by rw [haf.out]; kernel_rfl) (by rw [haf.out]; kernel_rfl) (store_u8 HE hil zo) ?_
          rw [haf.out]
          clear haf kh HE hil
          simp only [putAll, List.zip_cons_cons, List.zip_nil_right, List.foldl_cons, List.foldl_nil, Act.put, List.setIfInBounds_toArray, List.set_cons_zero, List.set_cons_succ]
          go_wp2
          exact ⟨⟨0 + 1, by omega, rfl, HA3, HK3⟩, by simp [intOf]⟩
      · have hb := HPB.out
        have hsz := HSZ.out
        have hix := idx_arr4_1 p0 p1 p2 p3
        obtain ⟨ys, hys⟩ : ∃ ys, addK zs m s 1 = ys := ⟨_, rfl⟩
        have HY := hid hys
        have HFk : Hid (FlAt wr B C ys) := hid (by rw [← hys]; exact HA.out)
        have HYL : Hid (ys.length = n) := hid (by rw [← hys, addK_length]; exact HNZ.out)
        obtain ⟨i, hi⟩ : ∃ i, p1 / 8 = i := ⟨_, rfl⟩
        obtain ⟨e8, he8⟩ : ∃ i, p1 % 8 = i := ⟨_, rfl⟩
        have T1 : Hid ((p1 : Int).tdiv 8 = (i : Int)) := hid (by rw [Int.tdiv_eq_ediv_of_nonneg (by omega)]; omega)
        have T2 : Hid ((p1 : Int).tmod 8 = (e8 : Int)) := hid (by rw [Int.tmod_eq_emod_of_nonneg (by omega)]; omega)
        have T3 : Hid ((p1 : Int) / 8 = (i : Int)) := hid (by omega)
        have T4 : Hid ((p1 : Int) % 8 = (e8 : Int)) := hid (by omega)
        have hin : i < n := by omega
        have he7 : e8 < 8 := by omega
        obtain ⟨cap, rest, h1, h2, h3, h4⟩ := HFk.out.at'
        rw [HYL.out] at h1 h3
        have H1 := hid h1
        have H2 := hid h2
        obtain ⟨z, hz⟩ : ∃ z, ys[i]?.getD 0 = z := ⟨_, rfl⟩
        have CZ : Hid (wr.cell? ⟨C, i, none⟩ = some (.int .u8 z)) := hid (by
          rw [h2.cell i, List.getElem?_append_left (by rw [List.length_map, HYL.out]; exact hin), List.getElem?_map, List.getElem?_eq_getElem (by rw [HYL.out]; exact hin), Option.map_some]
          rw [List.getElem?_eq_getElem (by rw [HYL.out]; exact hin), Option.getD_some] at hz
          rw [hz])
        unfold maxLen at h4
        have hin2 : i ≤ 1024 := by omega
        obtain ⟨pw, hpw⟩ : ∃ x : Int, (2 : Int) ^ e8 = x := ⟨_, rfl⟩
        have hpr := pow8_rng e8 he7
        rw [hpw] at hpr
        have PW := hid hpw
        have PW2 : Hid (IntKind.u8.wrap pw = pw) := hid (by rw [IntKind.wrap_u8]; omega)
        have PW3 : Hid (IntKind.u8.wrap (2 ^ e8) = pw) := hid (by rw [hpw]; exact PW2.out)
        obtain ⟨zo, hzo⟩ : ∃ x, bits .or .u8 z pw = x := ⟨_, rfl⟩
        have ZO := hid hzo
        have WI : Hid (IntKind.i64.wrap (i : Int) = (i : Int)) := hid (by rw [IntKind.wrap_i64]; omega)
        have BD := hid (show i < n ∧ n ≤ cap ∧ e8 < 8 ∧ i ≤ 1024 from ⟨hin, h3, he7, hin2⟩)
        have HN1 : Hid (addK zs m s (1 + 1) = ys.set i zo) := hid (by rw [addK_succ, hys, HP.out.2.1]; unfold setB; rw [hi, he8, hz, hpw, hzo])
        have HZO : Hid (0 ≤ zo ∧ zo < 256) := hid (by rw [← hzo]; exact or8_rng z pw)
        clear h1 h2 h3 h4 hb hsz hys hi he8 hz hpw hzo hin he7 hin2 hpr
        go_upto_region 5 with fail
        refine region_vals_last (n := 13) [none, none, none, none, none, none, none, none, none, none, none, none, none, none, none, some 0, some 1, some 2, some 3, some 4, some 5, some 6, some 7, some 8, some 9, some 10, some 11, some 12, none] [[(0, none)], [(15, some 0)], [(16, some 1)], [(17, some 2)], [(5, none)], [(19, some 4)], [(18, some 3), (20, some 5)], [(21, some 6)], [(5, none)], [(23, some 8)], [(24, some 9)], [(22, some 7), (25, some 10)], [(18, some 3), (20, some 5)], [(27, some 12), (26, some 11)]] [some 15, some 16, some 17, some 18, some 19, some 20, some 21, some 22, some 23, some 24, some 25, some 26, some 27] [.pointer (some ⟨B, 0, none⟩), .pointer (some ⟨B, 0, none⟩), .pointer (some ⟨B, 0, none⟩), .slice (some ⟨C, 0, none⟩) n cap, .int .i64 (p1 : Int), .int .i64 (i : Int), .pointer (some ⟨C, i, none⟩), .int .u8 z, .int .i64 (p1 : Int), .int .i64 (e8 : Int), .int .u8 pw, .int .u8 zo, .pointer (some ⟨C, i, none⟩)] (fun w' => Hid (Kp Nb wr w')) (by kernel_rfl) (by kernel_rfl) (by kernel_rfl) (by kernel_rfl) ({ dst := none, op := Op.store 5 (Operand.tmp 27) (Operand.tmp 26), type := 0, pos := "bloom.go:65", after := #[{ on := 12, ground := Ground.data }, { on := 11, ground := Ground.data }, { on := 0, ground := Ground.phase }, { on := 1, ground := Ground.phase }, { on := 2, ground := Ground.phase }, { on := 3, ground := Ground.phase }, { on := 4, ground := Ground.phase }, { on := 5, ground := Ground.phase }, { on := 6, ground := Ground.phase }, { on := 7, ground := Ground.phase }, { on := 8, ground := Ground.phase }, { on := 9, ground := Ground.phase }, { on := 10, ground := Ground.phase }, { on := 11, ground := Ground.phase }], guard := none }) rfl rfl (by kernel_rfl) (by kernel_rfl) ?hS (?hstep : VFrom _ _ _ _ _ _ 0 13).start ?hend
        case hstep =>
          refine VFrom.cons (VStep.val _ rfl _ rfl (.pointer (some ⟨B, 0, none⟩)) rfl trivial (fun ev wq hS he hr => ?_)) ?_
          · have r0 : ev (.tmp 0) = .pointer (some ⟨B, 0, none⟩) := hr (0, none) (by simp); have hk := he.1; clear hr he
            go_simp
          refine VFrom.cons (VStep.val _ rfl _ rfl (.pointer (some ⟨B, 0, none⟩)) rfl trivial (fun ev wq hS he hr => ?_)) ?_
          · have r0 : ev (.tmp 15) = .pointer (some ⟨B, 0, none⟩) := hr (15, some 0) (by simp); have hk := he.1; clear hr he
            go_simp
          refine VFrom.cons (VStep.val _ rfl _ rfl (.pointer (some ⟨B, 0, none⟩)) rfl trivial (fun ev wq hS he hr => ?_)) ?_
          · have r0 : ev (.tmp 16) = .pointer (some ⟨B, 0, none⟩) := hr (16, some 1) (by simp); have hk := he.1; clear hr he
            go_simp
          refine VFrom.cons (VStep.val _ rfl _ rfl (.slice (some ⟨C, 0, none⟩) n cap) rfl trivial (fun ev wq hS he hr => ?_)) ?_
          · have r0 : ev (.tmp 17) = .pointer (some ⟨B, 0, none⟩) := hr (17, some 2) (by simp); have hk := he.1; clear hr he
            have c0 := (H1.out.kept hS.out (fun h => h)).cell 0
            go_simp
          refine VFrom.cons (VStep.val _ rfl _ rfl (.int .i64 (p1 : Int)) rfl trivial (fun ev wq hS he hr => ?_)) ?_
          · have r0 : ev (.tmp 5) = .int .i64 (p1 : Int) := hr (5, none) (by simp); have hk := he.1; clear hr he
            go_simp
          refine VFrom.cons (VStep.val _ rfl _ rfl (.int .i64 (i : Int)) rfl trivial (fun ev wq hS he hr => ?_)) ?_
          · have r0 : ev (.tmp 19) = .int .i64 (p1 : Int) := hr (19, some 4) (by simp); have hk := he.1; clear hr he
            have e1 := T1.out; have e2 := BD.out; have e3 := T3.out; have e4 := WI.out
            go_simp
          refine VFrom.cons (VStep.val _ rfl _ rfl (.pointer (some ⟨C, i, none⟩)) rfl trivial (fun ev wq hS he hr => ?_)) ?_
          · have r0 : ev (.tmp 18) = .slice (some ⟨C, 0, none⟩) n cap := hr (18, some 3) (by simp); have r1 : ev (.tmp 20) = .int .i64 (i : Int) := hr (20, some 5) (by simp); have hk := he.1; clear hr he
            have e1 := BD.out
            go_simp
          refine VFrom.cons (VStep.val _ rfl _ rfl (.int .u8 z) rfl trivial (fun ev wq hS he hr => ?_)) ?_
          · have r0 : ev (.tmp 21) = .pointer (some ⟨C, i, none⟩) := hr (21, some 6) (by simp); have hk := he.1; clear hr he
            have c0 := hS.out.cell CZ.out (fun h => h)
            go_simp
          refine VFrom.cons (VStep.val _ rfl _ rfl (.int .i64 (p1 : Int)) rfl trivial (fun ev wq hS he hr => ?_)) ?_
          · have r0 : ev (.tmp 5) = .int .i64 (p1 : Int) := hr (5, none) (by simp); have hk := he.1; clear hr he
            go_simp
          refine VFrom.cons (VStep.val _ rfl _ rfl (.int .i64 (e8 : Int)) rfl trivial (fun ev wq hS he hr => ?_)) ?_
          · have r0 : ev (.tmp 23) = .int .i64 (p1 : Int) := hr (23, some 8) (by simp); have hk := he.1; clear hr he
            have e1 := T2.out; have e2 := BD.out; have e3 := T4.out
            go_simp
          refine VFrom.cons (VStep.val _ rfl _ rfl (.int .u8 pw) rfl trivial (fun ev wq hS he hr => ?_)) ?_
          · have r0 : ev (.tmp 24) = .int .i64 (e8 : Int) := hr (24, some 9) (by simp); have hk := he.1; clear hr he
            have e1 := PW.out; have e2 := BD.out; have e3 := PW2.out; have e4 := PW3.out
            go_simp
          refine VFrom.cons (VStep.val _ rfl _ rfl (.int .u8 zo) rfl trivial (fun ev wq hS he hr => ?_)) ?_
          · have r0 : ev (.tmp 22) = .int .u8 z := hr (22, some 7) (by simp); have r1 : ev (.tmp 25) = .int .u8 pw := hr (25, some 10) (by simp); have hk := he.1; clear hr he
            have e1 := ZO.out
            go_simp
          refine VFrom.cons (VStep.val _ rfl _ rfl (.pointer (some ⟨C, i, none⟩)) rfl trivial (fun ev wq hS he hr => ?_)) ?_
          · have r0 : ev (.tmp 18) = .slice (some ⟨C, 0, none⟩) n cap := hr (18, some 3) (by simp); have r1 : ev (.tmp 20) = .int .i64 (i : Int) := hr (20, some 5) (by simp); have hk := he.1; clear hr he
            have e1 := BD.out
            go_simp
          exact VFrom.nil
        case hS => exact hid (Kp.refl Nb wr).drew
        case hend =>
          intro af wy haf kh
          have HE := H2.out.kept kh.out (fun h => h)
          have hil : i < (ys.map (Value.int .u8) ++ rest).length := by rw [List.length_append, List.length_map, HYL.out]; have := BD.out; omega
          have HA3 : Hid (FlAt (wy.setCell ⟨C, i, none⟩ (.int .u8 zo)) B C (addK zs m s (1 + 1))) := hid (by
            rw [HN1.out]
            refine FlAt.set (HFk.out.kept kh.out (fun h => h) (fun h => h)) i zo (by rw [HYL.out]; exact BD.out.1) HZO.out)
          have HK3 := hid ((HK.out.trans kh.out (fun _ _ h => h.elim)).set i (.int .u8 zo))
          refine wp_store_at 5 (.tmp 27) (.tmp 26) rfl (p := ⟨C, i, none⟩) (v := .int .u8 zo) (by rw [haf.out]; kernel_rfl) (by rw [haf.out]; kernel_rfl) (store_u8 HE hil zo) ?_
          rw [haf.out]
          clear haf kh HE hil
          simp only [putAll, List.zip_cons_cons, List.zip_nil_right, List.foldl_cons, List.foldl_nil, Act.put, List.setIfInBounds_toArray, List.set_cons_zero, List.set_cons_succ]
          go_wp2
          exact ⟨⟨1 + 1, by omega, rfl, HA3, HK3⟩, by simp [intOf]⟩
      · have hb := HPB.out
        have hsz := HSZ.out
        have hix := idx_arr4_2 p0 p1 p2 p3
        obtain ⟨ys, hys⟩ : ∃ ys, addK zs m s 2 = ys := ⟨_, rfl⟩
        have HY := hid hys
        have HFk : Hid (FlAt wr B C ys) := hid (by rw [← hys]; exact HA.out)
        have HYL : Hid (ys.length = n) := hid (by rw [← hys, addK_length]; exact HNZ.out)
        obtain ⟨i, hi⟩ : ∃ i, p2 / 8 = i := ⟨_, rfl⟩
        obtain ⟨e8, he8⟩ : ∃ i, p2 % 8 = i := ⟨_, rfl⟩
        have T1 : Hid ((p2 : Int).tdiv 8 = (i : Int)) := hid (by rw [Int.tdiv_eq_ediv_of_nonneg (by omega)]; omega)
        have T2 : Hid ((p2 : Int).tmod 8 = (e8 : Int)) := hid (by rw [Int.tmod_eq_emod_of_nonneg (by omega)]; omega)
        have T3 : Hid ((p2 : Int) / 8 = (i : Int)) := hid (by omega)
        have T4 : Hid ((p2 : Int) % 8 = (e8 : Int)) := hid (by omega)
        have hin : i < n := by omega
        have he7 : e8 < 8 := by omega
        obtain ⟨cap, rest, h1, h2, h3, h4⟩ := HFk.out.at'
        rw [HYL.out] at h1 h3
        have H1 := hid h1
        have H2 := hid h2
        obtain ⟨z, hz⟩ : ∃ z, ys[i]?.getD 0 = z := ⟨_, rfl⟩
        have CZ : Hid (wr.cell? ⟨C, i, none⟩ = some (.int .u8 z)) := hid (by
          rw [h2.cell i, List.getElem?_append_left (by rw [List.length_map, HYL.out]; exact hin), List.getElem?_map, List.getElem?_eq_getElem (by rw [HYL.out]; exact hin), Option.map_some]
          rw [List.getElem?_eq_getElem (by rw [HYL.out]; exact hin), Option.getD_some] at hz
          rw [hz])
        unfold maxLen at h4
        have hin2 : i ≤ 1024 := by omega
        obtain ⟨pw, hpw⟩ : ∃ x : Int, (2 : Int) ^ e8 = x := ⟨_, rfl⟩
        have hpr := pow8_rng e8 he7
        rw [hpw] at hpr
        have PW := hid hpw
        have PW2 : Hid (IntKind.u8.wrap pw = pw) := hid (by rw [IntKind.wrap_u8]; omega)
        have PW3 : Hid (IntKind.u8.wrap (2 ^ e8) = pw) := hid (by rw [hpw]; exact PW2.out)
        obtain ⟨zo, hzo⟩ : ∃ x, bits .or .u8 z pw = x := ⟨_, rfl⟩
        have ZO := hid hzo
        have WI : Hid (IntKind.i64.wrap (i : Int) = (i : Int)) := hid (by rw [IntKind.wrap_i64]; omega)
        have BD := hid (show i < n ∧ n ≤ cap ∧ e8 < 8 ∧ i ≤ 1024 from ⟨hin, h3, he7, hin2⟩)
        have HN1 : Hid (addK zs m s (2 + 1) = ys.set i zo) := hid (by rw [addK_succ, hys, HP.out.2.2.1]; unfold setB; rw [hi, he8, hz, hpw, hzo])
        have HZO : Hid (0 ≤ zo ∧ zo < 256) := hid (by rw [← hzo]; exact or8_rng z pw)
        clear h1 h2 h3 h4 hb hsz hys hi he8 hz hpw hzo hin he7 hin2 hpr
        go_upto_region 5 with fail
        refine region_vals_last (n := 13) [none, none, none, none, none, none, none, none, none, none, none, none, none, none, none, some 0, some 1, some 2, some 3, some 4, some 5, some 6, some 7, some 8, some 9, some 10, some 11, some 12, none] [[(0, none)], [(15, some 0)], [(16, some 1)], [(17, some 2)], [(5, none)], [(19, some 4)], [(18, some 3), (20, some 5)], [(21, some 6)], [(5, none)], [(23, some 8)], [(24, some 9)], [(22, some 7), (25, some 10)], [(18, some 3), (20, some 5)], [(27, some 12), (26, some 11)]] [some 15, some 16, some 17, some 18, some 19, some 20, some 21, some 22, some 23, some 24, some 25, some 26, some 27] [.pointer (some ⟨B, 0, none⟩), .pointer (some ⟨B, 0, none⟩), .pointer (some ⟨B, 0, none⟩), .slice (some ⟨C, 0, none⟩) n cap, .int .i64 (p2 : Int), .int .i64 (i : Int), .pointer (some ⟨C, i, none⟩), .int .u8 z, .int .i64 (p2 : Int), .int .i64 (e8 : Int), .int .u8 pw, .int .u8 zo, .pointer (some ⟨C, i, none⟩)] (fun w' => Hid (Kp Nb wr w')) (by kernel_rfl) (by kernel_rfl) (by kernel_rfl) (by kernel_rfl) ({ dst := none, op := Op.store 5 (Operand.tmp 27) (Operand.tmp 26), type := 0, pos := "bloom.go:65", after := #[{ on := 12, ground := Ground.data }, { on := 11, ground := Ground.data }, { on := 0, ground := Ground.phase }, { on := 1, ground := Ground.phase }, { on := 2, ground := Ground.phase }, { on := 3, ground := Ground.phase }, { on := 4, ground := Ground.phase }, { on := 5, ground := Ground.phase }, { on := 6, ground := Ground.phase }, { on := 7, ground := Ground.phase }, { on := 8, ground := Ground.phase }, { on := 9, ground := Ground.phase }, { on := 10, ground := Ground.phase }, { on := 11, ground := Ground.phase }], guard := none }) rfl rfl (by kernel_rfl) (by kernel_rfl) ?hS (?hstep : VFrom _ _ _ _ _ _ 0 13).start ?hend
        case hstep =>
          refine VFrom.cons (VStep.val _ rfl _ rfl (.pointer (some ⟨B, 0, none⟩)) rfl trivial (fun ev wq hS he hr => ?_)) ?_
          · have r0 : ev (.tmp 0) = .pointer (some ⟨B, 0, none⟩) := hr (0, none) (by simp); have hk := he.1; clear hr he
            go_simp
          refine VFrom.cons (VStep.val _ rfl _ rfl (.pointer (some ⟨B, 0, none⟩)) rfl trivial (fun ev wq hS he hr => ?_)) ?_
          · have r0 : ev (.tmp 15) = .pointer (some ⟨B, 0, none⟩) := hr (15, some 0) (by simp); have hk := he.1; clear hr he
            go_simp
          refine VFrom.cons (VStep.val _ rfl _ rfl (.pointer (some ⟨B, 0, none⟩)) rfl trivial (fun ev wq hS he hr => ?_)) ?_
          · have r0 : ev (.tmp 16) = .pointer (some ⟨B, 0, none⟩) := hr (16, some 1) (by simp); have hk := he.1; clear hr he
            go_simp
          refine VFrom.cons (VStep.val _ rfl _ rfl (.slice (some ⟨C, 0, none⟩) n cap) rfl trivial (fun ev wq hS he hr => ?_)) ?_
          · have r0 : ev (.tmp 17) = .pointer (some ⟨B, 0, none⟩) := hr (17, some 2) (by simp); have hk := he.1; clear hr he
            have c0 := (H1.out.kept hS.out (fun h => h)).cell 0
            go_simp
          refine VFrom.cons (VStep.val _ rfl _ rfl (.int .i64 (p2 : Int)) rfl trivial (fun ev wq hS he hr => ?_)) ?_
          · have r0 : ev (.tmp 5) = .int .i64 (p2 : Int) := hr (5, none) (by simp); have hk := he.1; clear hr he
            go_simp
          refine VFrom.cons (VStep.val _ rfl _ rfl (.int .i64 (i : Int)) rfl trivial (fun ev wq hS he hr => ?_)) ?_
          · have r0 : ev (.tmp 19) = .int .i64 (p2 : Int) := hr (19, some 4) (by simp); have hk := he.1; clear hr he
            have e1 := T1.out; have e2 := BD.out; have e3 := T3.out; have e4 := WI.out
            go_simp
          refine VFrom.cons (VStep.val _ rfl _ rfl (.pointer (some ⟨C, i, none⟩)) rfl trivial (fun ev wq hS he hr => ?_)) ?_
          · have r0 : ev (.tmp 18) = .slice (some ⟨C, 0, none⟩) n cap := hr (18, some 3) (by simp); have r1 : ev (.tmp 20) = .int .i64 (i : Int) := hr (20, some 5) (by simp); have hk := he.1; clear hr he
            have e1 := BD.out
            go_simp
          refine VFrom.cons (VStep.val _ rfl _ rfl (.int .u8 z) rfl trivial (fun ev wq hS he hr => ?_)) ?_
          · have r0 : ev (.tmp 21) = .pointer (some ⟨C, i, none⟩) := hr (21, some 6) (by simp); have hk := he.1; clear hr he
            have c0 := hS.out.cell CZ.out (fun h => h)
            go_simp
          refine VFrom.cons (VStep.val _ rfl _ rfl (.int .i64 (p2 : Int)) rfl trivial (fun ev wq hS he hr => ?_)) ?_
          · have r0 : ev (.tmp 5) = .int .i64 (p2 : Int) := hr (5, none) (by simp); have hk := he.1; clear hr he
            go_simp
          refine VFrom.cons (VStep.val _ rfl _ rfl (.int .i64 (e8 : Int)) rfl trivial (fun ev wq hS he hr => ?_)) ?_
          · have r0 : ev (.tmp 23) = .int .i64 (p2 : Int) := hr (23, some 8) (by simp); have hk := he.1; clear hr he
            have e1 := T2.out; have e2 := BD.out; have e3 := T4.out
            go_simp
          refine VFrom.cons (VStep.val _ rfl _ rfl (.int .u8 pw) rfl trivial (fun ev wq hS he hr => ?_)) ?_
          · have r0 : ev (.tmp 24) = .int .i64 (e8 : Int) := hr (24, some 9) (by simp); have hk := he.1; clear hr he
            have e1 := PW.out; have e2 := BD.out; have e3 := PW2.out; have e4 := PW3.out
            go_simp
          refine VFrom.cons (VStep.val _ rfl _ rfl (.int .u8 zo) rfl trivial (fun ev wq hS he hr => ?_)) ?_
          · have r0 : ev (.tmp 22) = .int .u8 z := hr (22, some 7) (by simp); have r1 : ev (.tmp 25) = .int .u8 pw := hr (25, some 10) (by simp); have hk := he.1; clear hr he
            have e1 := ZO.out
            go_simp
          refine VFrom.cons (VStep.val _ rfl _ rfl (.pointer (some ⟨C, i, none⟩)) rfl trivial (fun ev wq hS he hr => ?_)) ?_
          · have r0 : ev (.tmp 18) = .slice (some ⟨C, 0, none⟩) n cap := hr (18, some 3) (by simp); have r1 : ev (.tmp 20) = .int .i64 (i : Int) := hr (20, some 5) (by simp); have hk := he.1; clear hr he
            have e1 := BD.out
            go_simp
          exact VFrom.nil
        case hS => exact hid (Kp.refl Nb wr).drew
        case hend =>
          intro af wy haf kh
          have HE := H2.out.kept kh.out (fun h => h)
          have hil : i < (ys.map (Value.int .u8) ++ rest).length := by rw [List.length_append, List.length_map, HYL.out]; have := BD.out; omega
          have HA3 : Hid (FlAt (wy.setCell ⟨C, i, none⟩ (.int .u8 zo)) B C (addK zs m s (2 + 1))) := hid (by
            rw [HN1.out]
            refine FlAt.set (HFk.out.kept kh.out (fun h => h) (fun h => h)) i zo (by rw [HYL.out]; exact BD.out.1) HZO.out)
          have HK3 := hid ((HK.out.trans kh.out (fun _ _ h => h.elim)).set i (.int .u8 zo))
          refine wp_store_at 5 (.tmp 27) (.tmp 26) rfl (p := ⟨C, i, none⟩) (v := .int .u8 zo) (by rw [haf.out]; kernel_rfl) (by rw [haf.out]; kernel_rfl) (store_u8 HE hil zo) ?_
          rw [haf.out]
          clear haf kh HE hil
          simp only [putAll, List.zip_cons_cons, List.zip_nil_right, List.foldl_cons, List.foldl_nil, Act.put, List.setIfInBounds_toArray, List.set_cons_zero, List.set_cons_succ]
          go_wp2
          exact ⟨⟨2 + 1, by omega, rfl, HA3, HK3⟩, by simp [intOf]⟩
      · have hb := HPB.out
        have hsz := HSZ.out
        have hix := idx_arr4_3 p0 p1 p2 p3
        obtain ⟨ys, hys⟩ : ∃ ys, addK zs m s 3 = ys := ⟨_, rfl⟩
        have HY := hid hys
        have HFk : Hid (FlAt wr B C ys) := hid (by rw [← hys]; exact HA.out)
        have HYL : Hid (ys.length = n) := hid (by rw [← hys, addK_length]; exact HNZ.out)
        obtain ⟨i, hi⟩ : ∃ i, p3 / 8 = i := ⟨_, rfl⟩
        obtain ⟨e8, he8⟩ : ∃ i, p3 % 8 = i := ⟨_, rfl⟩
        have T1 : Hid ((p3 : Int).tdiv 8 = (i : Int)) := hid (by rw [Int.tdiv_eq_ediv_of_nonneg (by omega)]; omega)
        have T2 : Hid ((p3 : Int).tmod 8 = (e8 : Int)) := hid (by rw [Int.tmod_eq_emod_of_nonneg (by omega)]; omega)
        have T3 : Hid ((p3 : Int) / 8 = (i : Int)) := hid (by omega)
        have T4 : Hid ((p3 : Int) % 8 = (e8 : Int)) := hid (by omega)
        have hin : i < n := by omega
        have he7 : e8 < 8 := by omega
        obtain ⟨cap, rest, h1, h2, h3, h4⟩ := HFk.out.at'
        rw [HYL.out] at h1 h3
        have H1 := hid h1
        have H2 := hid h2
        obtain ⟨z, hz⟩ : ∃ z, ys[i]?.getD 0 = z := ⟨_, rfl⟩
        have CZ : Hid (wr.cell? ⟨C, i, none⟩ = some (.int .u8 z)) := hid (by
          rw [h2.cell i, List.getElem?_append_left (by rw [List.length_map, HYL.out]; exact hin), List.getElem?_map, List.getElem?_eq_getElem (by rw [HYL.out]; exact hin), Option.map_some]
          rw [List.getElem?_eq_getElem (by rw [HYL.out]; exact hin), Option.getD_some] at hz
          rw [hz])
        unfold maxLen at h4
        have hin2 : i ≤ 1024 := by omega
        obtain ⟨pw, hpw⟩ : ∃ x : Int, (2 : Int) ^ e8 = x := ⟨_, rfl⟩
        have hpr := pow8_rng e8 he7
        rw [hpw] at hpr
        have PW := hid hpw
        have PW2 : Hid (IntKind.u8.wrap pw = pw) := hid (by rw [IntKind.wrap_u8]; omega)
        have PW3 : Hid (IntKind.u8.wrap (2 ^ e8) = pw) := hid (by rw [hpw]; exact PW2.out)
        obtain ⟨zo, hzo⟩ : ∃ x, bits .or .u8 z pw = x := ⟨_, rfl⟩
        have ZO := hid hzo
        have WI : Hid (IntKind.i64.wrap (i : Int) = (i : Int)) := hid (by rw [IntKind.wrap_i64]; omega)
        have BD := hid (show i < n ∧ n ≤ cap ∧ e8 < 8 ∧ i ≤ 1024 from ⟨hin, h3, he7, hin2⟩)
        have HN1 : Hid (addK zs m s (3 + 1) = ys.set i zo) := hid (by rw [addK_succ, hys, HP.out.2.2.2]; unfold setB; rw [hi, he8, hz, hpw, hzo])
        have HZO : Hid (0 ≤ zo ∧ zo < 256) := hid (by rw [← hzo]; exact or8_rng z pw)
        clear h1 h2 h3 h4 hb hsz hys hi he8 hz hpw hzo hin he7 hin2 hpr
        go_upto_region 5 with fail
        refine region_vals_last (n := 13) [none, none, none, none, none, none, none, none, none, none, none, none, none, none, none, some 0, some 1, some 2, some 3, some 4, some 5, some 6, some 7, some 8, some 9, some 10, some 11, some 12, none] [[(0, none)], [(15, some 0)], [(16, some 1)], [(17, some 2)], [(5, none)], [(19, some 4)], [(18, some 3), (20, some 5)], [(21, some 6)], [(5, none)], [(23, some 8)], [(24, some 9)], [(22, some 7), (25, some 10)], [(18, some 3), (20, some 5)], [(27, some 12), (26, some 11)]] [some 15, some 16, some 17, some 18, some 19, some 20, some 21, some 22, some 23, some 24, some 25, some 26, some 27] [.pointer (some ⟨B, 0, none⟩), .pointer (some ⟨B, 0, none⟩), .pointer (some ⟨B, 0, none⟩), .slice (some ⟨C, 0, none⟩) n cap, .int .i64 (p3 : Int), .int .i64 (i : Int), .pointer (some ⟨C, i, none⟩), .int .u8 z, .int .i64 (p3 : Int), .int .i64 (e8 : Int), .int .u8 pw, .int .u8 zo, .pointer (some ⟨C, i, none⟩)] (fun w' => Hid (Kp Nb wr w')) (by kernel_rfl) (by kernel_rfl) (by kernel_rfl) (by kernel_rfl) ({ dst := none, op := Op.store 5 (Operand.tmp 27) (Operand.tmp 26), type := 0, pos := "bloom.go:65", after := #[{ on := 12, ground := Ground.data }, { on := 11, ground := Ground.data }, { on := 0, ground := Ground.phase }, { on := 1, ground := Ground.phase }, { on := 2, ground := Ground.phase }, { on := 3, ground := Ground.phase }, { on := 4, ground := Ground.phase }, { on := 5, ground := Ground.phase }, { on := 6, ground := Ground.phase }, { on := 7, ground := Ground.phase }, { on := 8, ground := Ground.phase }, { on := 9, ground := Ground.phase }, { on := 10, ground := Ground.phase }, { on := 11, ground := Ground.phase }], guard := none }) rfl rfl (by kernel_rfl) (by kernel_rfl) ?hS (?hstep : VFrom _ _ _ _ _ _ 0 13).start ?hend
        case hstep =>
          refine VFrom.cons (VStep.val _ rfl _ rfl (.pointer (some ⟨B, 0, none⟩)) rfl trivial (fun ev wq hS he hr => ?_)) ?_
          · have r0 : ev (.tmp 0) = .pointer (some ⟨B, 0, none⟩) := hr (0, none) (by simp); have hk := he.1; clear hr he
            go_simp
          refine VFrom.cons (VStep.val _ rfl _ rfl (.pointer (some ⟨B, 0, none⟩)) rfl trivial (fun ev wq hS he hr => ?_)) ?_
          · have r0 : ev (.tmp 15) = .pointer (some ⟨B, 0, none⟩) := hr (15, some 0) (by simp); have hk := he.1; clear hr he
            go_simp
          refine VFrom.cons (VStep.val _ rfl _ rfl (.pointer (some ⟨B, 0, none⟩)) rfl trivial (fun ev wq hS he hr => ?_)) ?_
          · have r0 : ev (.tmp 16) = .pointer (some ⟨B, 0, none⟩) := hr (16, some 1) (by simp); have hk := he.1; clear hr he
            go_simp
          refine VFrom.cons (VStep.val _ rfl _ rfl (.slice (some ⟨C, 0, none⟩) n cap) rfl trivial (fun ev wq hS he hr => ?_)) ?_
          · have r0 : ev (.tmp 17) = .pointer (some ⟨B, 0, none⟩) := hr (17, some 2) (by simp); have hk := he.1; clear hr he
            have c0 := (H1.out.kept hS.out (fun h => h)).cell 0
            go_simp
          refine VFrom.cons (VStep.val _ rfl _ rfl (.int .i64 (p3 : Int)) rfl trivial (fun ev wq hS he hr => ?_)) ?_
          · have r0 : ev (.tmp 5) = .int .i64 (p3 : Int) := hr (5, none) (by simp); have hk := he.1; clear hr he
            go_simp
          refine VFrom.cons (VStep.val _ rfl _ rfl (.int .i64 (i : Int)) rfl trivial (fun ev wq hS he hr => ?_)) ?_
          · have r0 : ev (.tmp 19) = .int .i64 (p3 : Int) := hr (19, some 4) (by simp); have hk := he.1; clear hr he
            have e1 := T1.out; have e2 := BD.out; have e3 := T3.out; have e4 := WI.out
            go_simp
          refine VFrom.cons (VStep.val _ rfl _ rfl (.pointer (some ⟨C, i, none⟩)) rfl trivial (fun ev wq hS he hr => ?_)) ?_
          · have r0 : ev (.tmp 18) = .slice (some ⟨C, 0, none⟩) n cap := hr (18, some 3) (by simp); have r1 : ev (.tmp 20) = .int .i64 (i : Int) := hr (20, some 5) (by simp); have hk := he.1; clear hr he
            have e1 := BD.out
            go_simp
          refine VFrom.cons (VStep.val _ rfl _ rfl (.int .u8 z) rfl trivial (fun ev wq hS he hr => ?_)) ?_
          · have r0 : ev (.tmp 21) = .pointer (some ⟨C, i, none⟩) := hr (21, some 6) (by simp); have hk := he.1; clear hr he
            have c0 := hS.out.cell CZ.out (fun h => h)
            go_simp
          refine VFrom.cons (VStep.val _ rfl _ rfl (.int .i64 (p3 : Int)) rfl trivial (fun ev wq hS he hr => ?_)) ?_
          · have r0 : ev (.tmp 5) = .int .i64 (p3 : Int) := hr (5, none) (by simp); have hk := he.1; clear hr he
            go_simp
          refine VFrom.cons (VStep.val _ rfl _ rfl (.int .i64 (e8 : Int)) rfl trivial (fun ev wq hS he hr => ?_)) ?_
          · have r0 : ev (.tmp 23) = .int .i64 (p3 : Int) := hr (23, some 8) (by simp); have hk := he.1; clear hr he
            have e1 := T2.out; have e2 := BD.out; have e3 := T4.out
            go_simp
          refine VFrom.cons (VStep.val _ rfl _ rfl (.int .u8 pw) rfl trivial (fun ev wq hS he hr => ?_)) ?_
          · have r0 : ev (.tmp 24) = .int .i64 (e8 : Int) := hr (24, some 9) (by simp); have hk := he.1; clear hr he
            have e1 := PW.out; have e2 := BD.out; have e3 := PW2.out; have e4 := PW3.out
            go_simp
          refine VFrom.cons (VStep.val _ rfl _ rfl (.int .u8 zo) rfl trivial (fun ev wq hS he hr => ?_)) ?_
          · have r0 : ev (.tmp 22) = .int .u8 z := hr (22, some 7) (by simp); have r1 : ev (.tmp 25) = .int .u8 pw := hr (25, some 10) (by simp); have hk := he.1; clear hr he
            have e1 := ZO.out
            go_simp
          refine VFrom.cons (VStep.val _ rfl _ rfl (.pointer (some ⟨C, i, none⟩)) rfl trivial (fun ev wq hS he hr => ?_)) ?_
          · have r0 : ev (.tmp 18) = .slice (some ⟨C, 0, none⟩) n cap := hr (18, some 3) (by simp); have r1 : ev (.tmp 20) = .int .i64 (i : Int) := hr (20, some 5) (by simp); have hk := he.1; clear hr he
            have e1 := BD.out
            go_simp
          exact VFrom.nil
        case hS => exact hid (Kp.refl Nb wr).drew
        case hend =>
          intro af wy haf kh
          have HE := H2.out.kept kh.out (fun h => h)
          have hil : i < (ys.map (Value.int .u8) ++ rest).length := by rw [List.length_append, List.length_map, HYL.out]; have := BD.out; omega
          have HA3 : Hid (FlAt (wy.setCell ⟨C, i, none⟩ (.int .u8 zo)) B C (addK zs m s (3 + 1))) := hid (by
            rw [HN1.out]
            refine FlAt.set (HFk.out.kept kh.out (fun h => h) (fun h => h)) i zo (by rw [HYL.out]; exact BD.out.1) HZO.out)
          have HK3 := hid ((HK.out.trans kh.out (fun _ _ h => h.elim)).set i (.int .u8 zo))
          refine wp_store_at 5 (.tmp 27) (.tmp 26) rfl (p := ⟨C, i, none⟩) (v := .int .u8 zo) (by rw [haf.out]; kernel_rfl) (by rw [haf.out]; kernel_rfl) (store_u8 HE hil zo) ?_
          rw [haf.out]
          clear haf kh HE hil
          simp only [putAll, List.zip_cons_cons, List.zip_nil_right, List.foldl_cons, List.foldl_nil, Act.put, List.setIfInBounds_toArray, List.set_cons_zero, List.set_cons_succ]
          go_wp2
          exact ⟨⟨3 + 1, by omega, rfl, HA3, HK3⟩, by simp [intOf]⟩
      · obtain rfl : k = 0 := by omega
        have K9 := hid ((K1.out.mono (fun _ _ h => h.elim)).trans HK.out (fun _ _ h => h))
        go_wp2
        go_end0
        exact ⟨rfl, by rw [HAD.out]; exact HA.out, K9.out⟩


end Go.Proofs.Ytpgiinogfmhfiaa

namespace Go.Proofs.Ytpgiinogfmhfiaa
open Go.RowKit

theorem mark_info3L : ∃ i z, Try.prog.info? 24 = some i ∧ i.zero = some z ∧ i.size = 16 ∧ i.bytes = 16 ∧ z.cells.size = 16 := by
  have h : ((Try.prog.info? 24).map fun i => (i.zero.map fun z => z.cells.size, i.size, i.bytes)) = some (some 16, 16, 16) := by kernel_rfl
  obtain ⟨i, hi, h2⟩ := Option.map_eq_some_iff.1 h
  simp only [Prod.mk.injEq] at h2
  obtain ⟨z, hz, hz2⟩ := Option.map_eq_some_iff.1 h2.1
  exact ⟨i, z, hi, hz, h2.2.1, h2.2.2, hz2⟩
theorem mk_len {ms : List (List Int)} (h : ∀ i, MarkOk (markAt ms i)) : ∀ q ∈ ms, q.length = 16 := fun q hq => by
  obtain ⟨i, hi, rfl⟩ := List.mem_iff_getElem.1 hq
  have := (h i).len
  unfold markAt at this
  rw [List.getElem?_eq_getElem hi] at this
  exact this
theorem mk_rows {w : World} {v : Value} {ms : List (List Int)} (h : MkSl w v ms) : RowsSl markL (List.replicate 16 0) 16 w v ms := h.2
theorem markL_one' (m : List Int) : ∀ u ∈ markL m, u.oneCell' = true := fun u hu => by
  obtain ⟨z, _, rfl⟩ := List.mem_map.1 hu
  rfl
set_option maxHeartbeats 800000 in
theorem mclone_any (v : Value) (ms : List (List Int)) (w : World) (h : MkSl w v ms) (hbig : ms.length ≤ 100000) :
    Calls Try.prog 45 #[v] w fun e w' => ∃ v', e = .returned v' ∧ MkSl w' v' ms ∧ (∀ g, v'.ownBlock = some g → w.heap.size ≤ g ∧ g < w'.heap.size) ∧ Kp Nb w w' := by
  have q22 : ∀ (w : World) (a : Option Addr) (n c n' c' : Nat), (binOp .eql 22 (.slice a n c) (.slice none n' c')).run Try.prog w = .ok (.bool a.isNone) w := fun w a n c n' c' => Lib.run_eql_slice_nil w _ _ a n c n' c' Try.underlying22
  have HO := hid h.1
  have HR := hid (mk_rows h)
  have HLN := hid (mk_len h.1)
  obtain ⟨y, d, rfl⟩ := h.shape
  obtain ⟨n, hn⟩ : ∃ n, ms.length = n := ⟨_, rfl⟩
  rw [hn] at HR hbig ⊢
  have HN := hid hn
  have HB := hid hbig
  clear hn h
  cases y with
  | none =>
    have h0 : ms = [] := by
      rcases HR.out with ⟨-, h0⟩ | ⟨blk, off, cap, e, -⟩
      · exact h0
      · injection e with e; cases e
    subst h0
    go_enter Try.func45, Try.ntmps45
    go_wp2
    go_ret
    exact ⟨_, rfl, ⟨HO.out, .inl ⟨⟨_, _, rfl⟩, rfl⟩⟩, fun g hg => by simp [Value.ownBlock] at hg, Kp.refl _ _⟩
  | some a =>
    obtain ⟨i0, z, hi, hz0, hz1, hz2, hz3⟩ := mark_info3L
    have FR : Hid (RowsSl markL (List.replicate 16 0) 16 (w.alloc (.cells #[] 24 (0, 0))) (.slice (some a) n d) ms) := hid (HR.out.kept ((Kp.refl Nb w).alloc _))
    have FL : Hid (∀ q ∈ ms, (markL q).length = 16) := hid (fun q hq => by rw [markL_length]; exact HLN.out q hq)
    have LL : Hid (0 + ms.length ≤ maxLen ∧ (0 + ms.length) * 16 ≤ 140737488355328) := hid (by rw [HN.out]; unfold maxLen; omega)
    clear HR
    go_enter Try.func45, Try.ntmps45
    go_wp2_with (at_builtin; refine wpList_append_rows (f := markL) (z := List.replicate 16 0) (c := 16) rfl _ _ 22 rfl w.heap.size 24 i0 z 16 Try.underlying22 hi hz0 hz1 hz2 hz3 (by decide) _ 0 [] rfl (World.ownsRow_made w #[] 0 (Nat.le_refl _) (Nat.zero_le _) rfl) _ ms rfl FR.out FL.out (fun q _ => markL_one' q) LL.out.1 LL.out.2 ((Kp.refl Nb w).alloc _).size ?_)
    intro v9 w9 hown hgrow
    have hk := hid (((Kp.refl Nb w).alloc (.cells #[] 24)).grown hgrow (fun k hk h => by simp [Value.ownBlock] at hk; omega))
    have HO9 : Hid (w9.ownsRow w.heap.size 24 16 v9 ms.length (flatR markL ms)) := hid (by simpa only [Nat.zero_add, List.nil_append] using hown)
    have RS : Hid (MkSl w9 v9 ms) := hid ⟨HO.out, rows_owned HO9.out FL.out⟩
    have OW : Hid (∀ g, v9.ownBlock = some g → w.heap.size ≤ g ∧ g < w9.heap.size) := hid (fun g hg => by obtain ⟨h1, o, ho, -⟩ := row_cells HO9.out hg; exact ⟨h1, (Array.getElem?_eq_some_iff.1 ho).1⟩)
    obtain ⟨y9, c9, rfl⟩ := own_shape HO9.out
    clear hown hgrow HO9
    go_wp2
    go_ret
    exact ⟨_, rfl, RS.out, OW.out, hk.out⟩

/-- The marks that are lacking, of the first k: their places. -/
def lackT (zs : List Int) (ms : List (List Int)) (k : Nat) : List Nat := (List.range k).filter fun i => !mayB zs (markAt ms i)
theorem lackT_yes (zs : List Int) (ms : List (List Int)) (k : Nat) (h : mayB zs (markAt ms k) = false) : lackT zs ms (k + 1) = lackT zs ms k ++ [k] := by
  unfold lackT
  rw [List.range_succ, List.filter_append, List.filter_cons_of_pos (by rw [h]; rfl), List.filter_nil]
theorem lackT_no (zs : List Int) (ms : List (List Int)) (k : Nat) (h : mayB zs (markAt ms k) = true) : lackT zs ms (k + 1) = lackT zs ms k := by
  unfold lackT
  rw [List.range_succ, List.filter_append, List.filter_cons_of_neg (by rw [h]; decide), List.filter_nil, List.append_nil]
/-- What the iterator holds: boxes of a filter and of a list. -/
structure LkAt (w : World) (Bf Bl B C : Nat) (v : Value) (zs : List Int) (ms : List (List Int)) : Prop where
  bf : Boxed w Bf 29 (.pointer (some ⟨B, 0, none⟩))
  bl : Boxed w Bl 22 v
  fl : FlAt w B C zs
  sl : MkSl w v ms
theorem LkAt.kept {w w' : World} {Bf Bl B C : Nat} {v : Value} {zs : List Int} {ms : List (List Int)} (h : LkAt w Bf Bl B C v zs ms) (k : Kp Nb w w') : LkAt w' Bf Bl B C v zs ms :=
  ⟨(k.heap h.bf.lt (fun h => h)).trans h.bf, (k.heap h.bl.lt (fun h => h)).trans h.bl, h.fl.kept k (fun h => h) (fun h => h), h.sl.kept k⟩

theorem MkSl.keptV {S : Nat → Prop} {w w' : World} {v : Value} {ms : List (List Int)} (h : MkSl w v ms) (k : Kp S w w') (hS : ∀ g, v.ownBlock = some g → ¬ S g) : MkSl w' v ms := by
  refine ⟨h.1, ?_⟩
  rcases h.2 with h | ⟨blk, off, cap, rfl, hc, hm, hr⟩
  · exact .inl h
  · exact .inr ⟨blk, off, cap, rfl, hc, hm, fun i hi j u hu => k.cell (hr i hi j u hu) (hS blk rfl)⟩
set_option maxRecDepth 100000 in
set_option maxHeartbeats 2000000 in
theorem llacks_any (B C : Nat) (v : Value) (zs : List Int) (ms : List (List Int)) (w : World) (h : FlAt w B C zs) (hm : MkSl w v ms) (hbig : ms.length ≤ 100000) :
    Calls Try.prog 30 #[.pointer (some ⟨B, 0, none⟩), v] w fun e w' => ∃ (Bf Bl B' C' : Nat) (v' : Value), e = .returned (.func (.func 46) #[] #[.pointer (some ⟨Bl, 0, none⟩), .pointer (some ⟨Bf, 0, none⟩)]) ∧ LkAt w' Bf Bl B' C' v' zs ms ∧ w.heap.size ≤ Bf ∧ w.heap.size ≤ Bl ∧ w.heap.size ≤ B' ∧ w.heap.size ≤ C' ∧ (∀ g, v'.ownBlock = some g → w.heap.size ≤ g ∧ g < w'.heap.size) ∧ Bf ≠ Bl ∧ Kp Nb w w' := by
  obtain ⟨cap, rest, h1, h2, h3, h4⟩ := h.at'
  have HBY : Hid (BySl Nb w (.slice (some ⟨C, 0, none⟩) zs.length cap) zs) := hid ⟨h.ok, .inr ⟨C, 0, cap, rfl, h3, h4, fun i hi => by
    rw [Nat.zero_add, h2.cell i, List.getElem?_append_left (by rw [List.length_map]; exact hi), List.getElem?_map, List.getElem?_eq_getElem hi]
    rfl, fun _ h => h⟩⟩
  have HSZ := hid h.size
  have HOK := hid h.ok
  have HMK := hid hm
  obtain ⟨n, hn⟩ : ∃ n, zs.length = n := ⟨_, rfl⟩
  have HN := hid hn
  rw [hn] at h1 HBY HSZ
  obtain ⟨ym, dm, rfl⟩ := hm.shape
  obtain ⟨Bf, hBf⟩ : ∃ N, w.heap.size = N := ⟨_, rfl⟩
  obtain ⟨W, hW⟩ : ∃ W, W = (w.alloc (.cells #[.pointer none] 29)).alloc (.cells #[.slice none 0 0] 22) := ⟨_, rfl⟩
  have kW : Kp Nb w W := by rw [hW]; exact ((Kp.refl Nb w).alloc _).alloc _
  have KW := hid kW
  have XF : Hid (Boxed W Bf 29 (.pointer none)) := hid (by rw [hW, ← hBf]; exact (Boxed.new w _ _).alloc _)
  have XL : Hid (Boxed W (Bf + 1) 22 (.slice none 0 0)) := hid (by
    have h := Boxed.new (w.alloc (.cells #[.pointer none] 29)) 22 (.slice none 0 0)
    simp only [World.size_alloc] at h
    rw [hW, ← hBf]
    exact h)
  have H1 := hid (h1.kept kW (fun h => h))
  have c0 := H1.out.cell 0
  simp only [List.getElem?_cons_zero] at c0
  have LB : Hid (w.heap.size = Bf) := hid hBf
  have CC : Hid (Calls Try.prog 29 #[.slice (some ⟨C, 0, none⟩) n cap] W fun e w' => ∃ v', e = .returned v' ∧ w'.ownsRow W.heap.size 5 1 v' n (zs.map (Value.int .u8)) ∧ Kp Nb W w') := hid (by
    have h := clone_any _ zs W (HBY.out.kept kW (fun _ h => h)) (by rw [hn]; have := HSZ.out; omega)
    rw [hn] at h
    exact h)
  clear h h1 h2 h3 h4 hm hn kW
  go_enter Try.func30, Try.ntmps30
  go_upto_region 3 with fail
  rw [show (w.alloc (.cells #[.pointer none] 29)).alloc (.cells #[.slice none 0 0] 22) = W from hW.symm]
  clear hW hBf
  go_wp2_with fail
  refine CC.out.mono ?_
  rintro e w1 ⟨vc, rfl, ow, k1⟩
  obtain ⟨g, cp, rest', rfl, hg, hb, hn1, hx1⟩ := own_blk ow (by have := HSZ.out; omega)
  obtain ⟨W2, hW2⟩ : ∃ W, W = w1.alloc (.cells #[.slice (some ⟨g, 0, none⟩) n cp] 60) := ⟨_, rfl⟩
  obtain ⟨B2, hB2⟩ : ∃ N, w1.heap.size = N := ⟨_, rfl⟩
  have k2 : Kp Nb w1 W2 := by rw [hW2]; exact (Kp.refl Nb w1).alloc _
  have FL2 : Hid (FlAt W2 B2 g zs) := hid (by
    refine ⟨HOK.out, ⟨cp, rest', ?_, hb.kept k2 (fun h => h), by rw [HN.out]; exact hn1, hx1⟩, by rw [HN.out]; exact HSZ.out, fun e => ?_⟩
    · rw [HN.out, hW2, ← hB2]; exact Blk.new w1 _ [.slice (some ⟨g, 0, none⟩) n cp]
    · have := hb.lt; omega)
  have kk := k1.trans k2 (fun _ _ h => h)
  have XF2 : Hid (Boxed W2 Bf 29 (.pointer none)) := hid ((kk.heap XF.out.lt (fun h => h)).trans XF.out)
  have XL2 : Hid (Boxed W2 (Bf + 1) 22 (.slice none 0 0)) := hid ((kk.heap XL.out.lt (fun h => h)).trans XL.out)
  have K2 := hid (KW.out.trans kk (fun _ _ h => h))
  have LG : Hid (W.heap.size ≤ g ∧ W.heap.size ≤ B2 ∧ Bf + 1 < W.heap.size) := hid ⟨hg, by rw [← hB2]; exact k1.size, XL.out.lt⟩
  have CM := hid (mclone_any _ ms W2 (HMK.out.kept K2.out) hbig)
  clear ow k1 hg hb hn1 hx1 k2 kk XF XL KW H1 c0 CC
  go_wp2_with fail
  rw [show w1.alloc (.cells #[.slice (some ⟨g, 0, none⟩) n cp] 60) = W2 from hW2.symm]
  clear hW2 hB2
  refine CM.out.mono ?_
  rintro e w3 ⟨vm, rfl, sm, om, k3⟩
  have hf3 : Boxed w3 Bf 29 (.pointer none) := (k3.heap XF2.out.lt (fun h => h)).trans XF2.out
  have hl3 : Boxed w3 (Bf + 1) 22 (.slice none 0 0) := (k3.heap XL2.out.lt (fun h => h)).trans XL2.out
  have HF3 := hid hf3
  have HL3 := hid hl3
  have FL3 := hid (FL2.out.kept k3 (fun h => h) (fun h => h))
  have SM := hid sm
  have OM : Hid (∀ g, vm.ownBlock = some g → W2.heap.size ≤ g ∧ g < w3.heap.size) := hid om
  have K3 := hid (K2.out.trans k3 (fun _ _ h => h))
  have KS := hid XL2.out.lt
  obtain ⟨yv, dv, rfl⟩ := sm.shape
  have f1 := hf3.frozen
  have f2 := hl3.frozen
  have e1 := hf3.cell
  have e2 := hl3.cell
  clear sm om k3 hf3 hl3 XF2 XL2 FL2 K2 CM
  go_wp2
  obtain ⟨w4, hw4⟩ : ∃ W, W = w3.setCell ⟨Bf, 0, none⟩ (.pointer (some ⟨B2, 0, none⟩)) := ⟨_, rfl⟩
  obtain ⟨w5, hw5⟩ : ∃ W, W = w4.setCell ⟨Bf + 1, 0, none⟩ (.slice yv ms.length dv) := ⟨_, rfl⟩
  have KX : Hid (Kp (fun k => k = Bf ∨ k = Bf + 1) w3 w5) := hid (by
    rw [hw5, hw4]
    exact ((Kp.refl _ w3).setCell (p := ⟨Bf, 0, none⟩) (fun _ => .inl rfl) _).setCell (p := ⟨Bf + 1, 0, none⟩) (fun _ => .inr rfl) _)
  have XF5 : Hid (Boxed w5 Bf 29 (.pointer (some ⟨B2, 0, none⟩))) := hid (by
    have h4 : Boxed w4 Bf 29 (.pointer (some ⟨B2, 0, none⟩)) := by rw [hw4]; exact HF3.out.set _
    rw [hw5]
    exact (Below.heap_setCell _ _ _ _ (by intro e; dsimp only at e; omega)).trans h4)
  have XL5 : Hid (Boxed w5 (Bf + 1) 22 (.slice yv ms.length dv)) := hid (by
    have h4 : Boxed w4 (Bf + 1) 22 (.slice none 0 0) := by
      rw [hw4]
      exact (Below.heap_setCell _ _ _ _ (by intro e; dsimp only at e; omega)).trans HL3.out
    rw [hw5]
    exact h4.set _)
  have K5 : Hid (Kp Nb w w5) := hid (K3.out.trans KX.out (fun i hi h => by have h' : i = Bf ∨ i = Bf + 1 := h; have := LB.out; omega))
  have FL5 : Hid (FlAt w5 B2 g zs) := hid (FL3.out.kept KX.out (fun h => by have h' : B2 = Bf ∨ B2 = Bf + 1 := h; have := LG.out; omega) (fun h => by have h' : g = Bf ∨ g = Bf + 1 := h; have := LG.out; omega))
  have SM5 : Hid (MkSl w5 (.slice yv ms.length dv) ms) := hid (SM.out.keptV KX.out (fun g' hg h => by have h' : g' = Bf ∨ g' = Bf + 1 := h; have := OM.out g' hg; have := KS.out; omega))
  rw [show (w3.setCell ⟨Bf, 0, none⟩ (.pointer (some ⟨B2, 0, none⟩))).setCell ⟨Bf + 1, 0, none⟩ (.slice yv ms.length dv) = w5 from by rw [hw5, hw4]]
  clear hw4 hw5
  go_ret
  refine ⟨Bf, Bf + 1, B2, g, _, rfl, ⟨XF5.out, XL5.out, FL5.out, SM5.out⟩, ?_, ?_, ?_, ?_, fun g' hg => ?_, by omega, K5.out⟩
  · have := LB.out; omega
  · have := LB.out; omega
  · have := LB.out; have := LG.out; omega
  · have := LB.out; have := LG.out; omega
  · have := OM.out g' hg; have := LB.out; have := KS.out; have := KX.out.size; omega

end Go.Proofs.Ytpgiinogfmhfiaa
