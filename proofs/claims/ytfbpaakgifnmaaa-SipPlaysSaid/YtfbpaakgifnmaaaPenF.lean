/-
  Layer 2: the walk of first, what must be answered ahead of everything else. No condition.
-/
import Derived.Test.YtfbpaakgifnmaaaPenD
import Derived.Test.YtfbpaakgifnmaaaJoined
import Derived.Lib.SlBytesConst
import Derived.Deep.RegionHeld3
namespace Go.Proofs.Ytfbpaakgifnmaaa
open Go.RowKit

theorem by_const (w : World) (t : TypeId) (zs : List Int) (hz : ∀ z ∈ zs, 0 ≤ z ∧ z < 256) (hm : zs.length ≤ maxLen) (fr : Nat × Nat) (S : Nat → Prop) (hn : ¬ S w.heap.size) :
    BySl S (w.alloc (.cells (zs.map (Value.int .u8)).toArray t fr)) (.slice (some ⟨w.heap.size, 0, none⟩) zs.length zs.length) zs := by
  refine ⟨IsBytes.of hz, .inr ⟨_, _, _, rfl, Nat.le_refl _, hm, fun i hi => ?_, fun _ => hn⟩⟩
  have hb : (w.alloc (.cells (zs.map (Value.int .u8)).toArray t fr)).heap[w.heap.size]? = some (.cells (zs.map (Value.int .u8)).toArray t fr) := heap_alloc_new w _
  unfold World.cell?
  rw [Nat.zero_add, hb]
  simp [hi]

theorem PenTo.keep {a b c : World} {B : Nat} {v v' : Value} (h : PenTo a b B v v') (k : Kp Nb b c) : PenTo a c B v v' :=
  ⟨h.kp.trans k (fun _ _ h => absurd h (fun h => h)), h.at'⟩
theorem PenAt.new (w : World) : PenAt (w.alloc (.cells #[.slice none 0 0] 89)) w.heap.size (.slice none 0 0) [] :=
  ⟨Blk.new w 89 [.slice none 0 0], World.ownsRow_nil _ _ _ _, by simp [Value.ownBlock], fun i => by simp⟩
theorem PenTo.own_ge {a b : World} {B : Nat} {v v' : Value} (h : PenTo a b B v v') (hv : v.ownBlock = none) : ∀ g, v'.ownBlock = some g → a.heap.size ≤ g := by
  rcases h.at' with e | e
  · intro g hg; rw [e, hv] at hg; cases hg
  · exact e
theorem PenTo.fresh {w a b : World} {B : Nat} {v v' : Value} (h : PenTo a b B v v') (hv : v.ownBlock = none) (k : Kp Nb w a) (hB : w.heap.size ≤ B) : Kp Nb w b :=
  k.trans h.kp (fun i hi hp => by
    rcases hp with hp | hp
    · omega
    · rw [hv] at hp; cases hp)

def fb0 : List Int := [250, 1, 0, 0, 5, 2, 97, 98]
theorem fb_all : [] ++ numBytes 65536 ++ numBytes (zigI (-3)) ++ numBytes 2 ++ [97, 98] = fb0 := by kernel_rfl
theorem fb_read1 : readN fb0 0 99999 = (65536, [5, 2, 97, 98], 0) := by kernel_rfl
theorem fb_read2 : readN [5, 2, 97, 98] 0 18446744073709551615 = (5, [2, 97, 98], 0) := by kernel_rfl
theorem fb_read3 : textN [2, 97, 98] 0 2 = ([97, 98], [], 0) := by kernel_rfl

theorem fb_number (E : Nat) (w : World) (h : EyeAt w E fb0 0) :
    Calls Try.prog 41 #[.pointer (some ⟨E, 0, none⟩), .int .u64 99999] w fun r w' => r = .returned (.int .u64 65536) ∧ EyeAt w' E [5, 2, 97, 98] 0 ∧ Kp (Jb E) w w' := by
  have := number_any E fb0 0 99999 w h
  rw [fb_read1] at this
  exact this
theorem fb_signed (E : Nat) (w : World) (h : EyeAt w E [5, 2, 97, 98] 0) :
    Calls Try.prog 43 #[.pointer (some ⟨E, 0, none⟩)] w fun r w' => r = .returned (.int .i64 (-3)) ∧ EyeAt w' E [2, 97, 98] 0 ∧ Kp (Jb E) w w' := by
  have := signed_any E [5, 2, 97, 98] 0 w h
  rw [fb_read2] at this
  exact this
theorem fb_text (E : Nat) (w : World) (h : EyeAt w E [2, 97, 98] 0) :
    Calls Try.prog 44 #[.pointer (some ⟨E, 0, none⟩), .int .i64 2] w fun r w' => (∃ v', r = .returned v' ∧ BySl (Jb E) w' v' [97, 98]) ∧ EyeAt w' E [] 0 ∧ Kp (Jb E) w w' := by
  have := text_any E [2, 97, 98] 0 2 w h (by decide) (by decide) (by decide)
  rw [fb_read3] at this
  exact this
theorem fb_end (E : Nat) (w : World) (h : EyeAt w E [] 0) :
    Calls Try.prog 50 #[.pointer (some ⟨E, 0, none⟩)] w fun r w' => r = .returned (.int .i64 0) ∧ EyeAt w' E [] 0 ∧ Kp (Jb E) w w' := end_any E [] 0 w h
theorem fb_zig (w : World) : Calls Try.prog 34 #[.int .i64 (-1)] w fun e w' => e = .returned (.int .u64 1) ∧ w = w' := by
  have := zig_any (-1) w
  rw [show zigI (-1) = 1 from by kernel_rfl] at this
  exact this
theorem fb_zag (w : World) : Calls Try.prog 36 #[.int .u64 1] w fun e w' => e = .returned (.int .i64 (-1)) ∧ w = w' := by
  have := zag_any 1 w (by decide) (by decide)
  rw [show zagI 1 = -1 from by kernel_rfl] at this
  exact this
theorem fb_size (w : World) : Calls Try.prog 38 #[.int .u64 248] w fun e w' => e = .returned (.int .i64 2) ∧ w = w' := by
  have := size_any 248 w (by decide) (by decide)
  rw [show sizeN 248 = 2 from by kernel_rfl] at this
  exact this

set_option maxRecDepth 100000 in
set_option maxHeartbeats 1000000 in
theorem first2_any (w : World) : Calls Try.prog 26 #[] w fun e w' => e = .returned (.bool true) ∧ Kp Nb w w' := by
  have kc := fun (w : World) (C : Array Value) (n c : Nat) => Lib.run_convert_bytes_const (P := Try.prog) w 42 5 C n c Try.underlying42 Try.underlying5
  have HK0 := hid ((Kp.refl Nb w).alloc (.cells #[.slice none 0 0] 89))
  have HP0 := hid (PenAt.new w)
  obtain ⟨w0, hW⟩ : ∃ w0, w0 = w.alloc (.cells #[.slice none 0 0] 89) := ⟨_, rfl⟩
  obtain ⟨B, hB⟩ : ∃ B, B = w.heap.size := ⟨_, rfl⟩
  go_enter Try.func26, Try.ntmps26
  go_wp2_with fail
  rw [← hW] at HK0 HP0 ⊢
  rw [← hB] at HP0 ⊢
  have HB := hid hB
  clear hW hB
  refine (pen_number B _ [] 65536 _ HP0.out (by decide) (by decide) (by decide)).mono ?_
  rintro e w1 ⟨rfl, v1, h1, t1⟩
  have HP1 := hid h1
  have HT1 := hid t1
  clear h1 t1
  go_wp2_with fail
  refine (pen_signed B _ _ (-3) _ HP1.out (by rw [List.nil_append]; have := numBytes_length 65536 (by decide); omega)).mono ?_
  rintro e w2 ⟨rfl, v2, h2, t2⟩
  have HP2 := hid h2
  have HT2 := hid (HT1.out.trans t2)
  clear h2 t2 HP1 HT1
  go_wp2_with fail
  have HP2b := hid (HP2.out.kept ((Kp.refl Nb w2).alloc (.cells #[.int .u8 97, .int .u8 98] 5 (2, 3))) (fun h => h) (fun _ _ h => h))
  have HT2b := hid (HT2.out.keep ((Kp.refl Nb w2).alloc (.cells #[.int .u8 97, .int .u8 98] 5 (2, 3))))
  have HU := hid (by_const w2 5 [97, 98] (by decide) (by decide) (2, 3) (Pb B v2) (by
    intro h
    rcases h with h | h
    · have := HP2.out.lt; omega
    · have := (HP2.out.own.lt _ h).2; omega))
  refine (pen_text B v2 _ _ [97, 98] _ HP2b.out HU.out (by have a1 := numBytes_length 65536 (by decide); have a2 := numBytes_length (zigI (-3)) (by decide +kernel); simp only [List.length_append, List.length_nil, List.length_cons]; omega)).mono ?_
  rintro e w3 ⟨rfl, v3, h3, t3⟩
  have h3' : PenAt w3 B v3 fb0 := by rw [← fb_all]; exact h3
  have HP3 := hid h3'
  have HT3 := hid (HT2b.out.trans t3)
  clear h3 t3 h3' HP2 HT2 HP2b HT2b HU
  go_wp2_with fail
  refine (pen_bytes B v3 fb0 _ HP3.out (by decide)).mono ?_
  rintro e w4 ⟨r4, rfl, o4, k4⟩
  have HP4 := hid (HP3.out.kept k4 (fun h => h) (fun _ _ h => h))
  have HT4 := hid (HT3.out.keep k4)
  have HR4 := hid (BySl.ofOwn (S := Nb) o4 HP3.out.bytes (fun _ _ _ h => h))
  clear o4 k4 HP3 HT3
  go_wp2_with fail
  refine (read_any r4 fb0 _ HR4.out (by decide)).mono ?_
  rintro e w5 ⟨E, hE, rfl, h5, k5⟩
  have HE := hid hE
  have HQ5 := hid h5
  have HP5 := hid (HP4.out.kept k5 (fun h => h) (fun _ _ h => h))
  have HT5 := hid (HT4.out.keep k5)
  have hEB : E ≠ B := by have := HP4.out.lt; omega
  have HEB := hid hEB
  have HEV : Hid (∀ g, v3.ownBlock = some g → g ≠ E) := fun g hg => by have := (HP4.out.own.lt g hg).2; omega
  have HEL : Hid (w.heap.size ≤ E) := by have := (PenTo.fresh HT4.out rfl HK0.out (Nat.le_of_eq HB.out.symm)).size; unfold Hid; omega
  clear hE h5 k5 HP4 HT4 hEB
  go_wp2_with fail
  go_region_with
    (first
      | (go_at_call 41; refine (fb_number E _ (by first | exact HQ5.out | exact EyeAt.kept HQ5.out (Kp.drew (Kp.refl Nb _)) (fun _ _ h => h))).mono ?_; rintro e w6 ⟨rfl, q6, k6'⟩; have HQ6 := hid q6; have K6 := hid (Kp.trans (Kp.drew (Kp.refl (Jb E) _)) k6' (fun _ _ h => h)); clear q6 k6')
      | (go_at_call 43; refine (fb_signed E _ HQ6.out).mono ?_; rintro e w7 ⟨rfl, q7, k7'⟩; have HQ7 := hid q7; have K7 := hid (Kp.trans K6.out k7' (fun _ _ h => h)); clear q7 k7')
      | (go_at_call 44; refine (fb_text E _ HQ7.out).mono ?_; rintro e w8 ⟨⟨r8, rfl, b8⟩, q8, k8'⟩; have HQ8 := hid q8; have K8 := hid (Kp.trans K7.out k8' (fun _ _ h => h)); have hcv := conv_any b8; clear q8 k8' b8))
  all_goals
    have hst1 : st [97, 98] = ⟨#[97, 98]⟩ := by kernel_rfl
    rw [hst1]
    have K8w : Kp Nb w w8 := (PenTo.fresh HT5.out rfl HK0.out (Nat.le_of_eq HB.out.symm)).trans K8.out (fun i hi h => by have := HEL.out; unfold Jb at h; omega)
    have HKW := hid K8w
    have HP8 := hid (HP5.out.kept K8.out (fun h => HEB.out h.symm) (fun g hg h => HEV.out g hg h))
    clear K8w hcv K6 K7 K8 HQ5 HQ6 HQ7 HP5 HT5
    go_wp2_with fail
    refine (pen_bytes B v3 fb0 _ HP8.out (by decide)).mono ?_
    rintro e w9 ⟨r9, rfl, o9, k9⟩
    have HQ9 := hid (HQ8.out.kept k9 (fun _ _ h => h))
    have HK9 := hid (HKW.out.trans k9 (fun _ _ h => h))
    have hcv := conv_any (BySl.ofOwn (S := Nb) o9 HP8.out.bytes (fun _ _ _ h => h))
    rw [show st fb0 = ⟨#[250, 1, 0, 0, 5, 2, 97, 98]⟩ from by kernel_rfl] at hcv
    clear o9 k9 HQ8 HKW HP8
    go_wp2_with fail
    refine (fb_end E _ HQ9.out).mono ?_
    rintro e wa ⟨rfl, qa, ka⟩
    have HKA := hid (HK9.out.trans ka (fun i hi h => by have := HEL.out; unfold Jb at h; omega))
    clear qa ka HK9 HQ9 hcv
    go_wp2_with fail
    refine (fb_zig _).mono ?_
    rintro e wb ⟨rfl, rfl⟩
    go_wp2_with fail
    refine (fb_zag _).mono ?_
    rintro e wb ⟨rfl, rfl⟩
    go_wp2_with fail
    refine (fb_size _).mono ?_
    rintro e wb ⟨rfl, rfl⟩
    go_wp2
    go_ret
    exact ⟨rfl, HKA.out⟩

end Go.Proofs.Ytfbpaakgifnmaaa
