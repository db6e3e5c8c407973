/-
  The library's FormatUint at base 10, for every number of 64 bits; Itoa of a small number. Condition: the table of powers of ten lies as the program's text lays it.
-/
import Derived.Test.YtjipcmhknikcgaaDoorKp
import Derived.Test.YtjipcmhknikcgaaDoorShelf
import Derived.Lib.ItoaMem
import Derived.WalkMore
namespace Go.Proofs.YtjipcmhknikcgaaDoor
open Go.RowKit Go.Sort Go.Lib

/-- The table of powers of ten, where it lies. -/
structure Tb (w : World) : Prop where
  at0 : ∃ t fr, w.heap[0]? = some (.cells (pow10Tab.map fun z => Value.int .u64 z).toArray t fr)
theorem Tb.kept {S : Nat → Prop} {w w' : World} (h : Tb w) (k : Kp S w w') (h0 : ¬ S 0) : Tb w' := by
  obtain ⟨t, fr, e⟩ := h.at0
  exact ⟨t, fr, (k.heap (Array.getElem?_eq_some_iff.1 e).1 h0).trans e⟩
theorem Tb.is {w : World} (h : Tb w) : TabIs Tryd.prog w "internal/strconv.uint64pow10" .u64 pow10Tab := by
  obtain ⟨t, fr, e⟩ := h.at0
  have hg : Tryd.prog.globalNamed "internal/strconv.uint64pow10" = some 0 := by kernel_rfl
  unfold TabIs World.var?
  rw [hg]
  simp only [Option.bind_some, e]
abbrev encB : UInt8 → Value := fun b => Value.int .u8 (b.toNat : Int)
theorem holds_zero0 (w : World) (T : TypeId) (nd : Nat) (hs : nd ≤ 24) : Holds encB (w.alloc (.cells zeros24 T)) w.heap.size 0 (Array.replicate nd (0 : UInt8)) := fun j hj => by
  have hj' : j < nd := by simpa using hj
  refine ⟨?_, World.frozen?_alloc_new _ _ _ _⟩
  rw [World.cell?_alloc_new, zeros24_at _ (by omega), getElem!_pos _ j hj]
  simp
/-- A number's decimal text. -/
def decB (u : Nat) : ByteArray := ⟨(decDigits u).toArray⟩
theorem kp_putRow (w : World) (o : Obj) (d : Array UInt8) (k : Nat) : Kp Nb w ((putRow encB (w.alloc o) w.heap.size 0 d).drewN k) := by
  have h : Kp Nb w (putRow encB (w.alloc o) w.heap.size 0 d) :=
    ⟨rfl, rfl, rfl, by rw [show (putRow encB (w.alloc o) w.heap.size 0 d).heap.size = (w.alloc o).heap.size from size_putRow _ _ _ _ _]; simp, fun i hi _ => by
      have e : (putRow encB (w.alloc o) w.heap.size 0 d).heap[i]? = (w.alloc o).heap[i]? := by
        simp only [putRow, mapBlock, Array.getElem?_modify]
        rw [if_neg (by omega)]
      exact e.trans (Below.heap_alloc _ _ _ hi)⟩
  exact h.drewN k
set_option maxHeartbeats 6400000 in
set_option maxRecDepth 100000 in
theorem fuint_in (u : Nat) (hu64 : u < 18446744073709551616) (w : World) (ht : Tb w) : Calls Tryd.prog 32 #[.int .u64 u, .int .i64 10] w fun e w' => e = .returned (.string (decB u)) ∧ Kp Nb w w' := by
  by_cases hs : u < 100
  · have hs' : (u : Int) < 100 := by omega
    have hwr : IntKind.i64.wrap (u : Int) = (u : Int) := IntWalk.i64_in _ (by omega)
    have CS : Hid (∀ w, Calls Tryd.prog 37 #[.int .i64 u] w fun e w' => e = .returned (.string (decB u)) ∧ w = w') := hid (fun w => (Tryd.internal_strconv_small u hs w).mono fun e w' ⟨h1, h2⟩ => ⟨h1, h2.symm⟩)
    go_enter Tryd.func32, Tryd.ntmps32
    go_wp2_with fail
    refine (CS.out _).mono ?_
    rintro e w' ⟨rfl, rfl⟩
    go_wp2
    go_ret
    exact ⟨rfl, Kp.refl _ _⟩
  · have hu1 : 1 ≤ u := by omega
    have hs' : ¬ (u : Int) < 100 := by omega
    have hnd20 : nDigits u ≤ 20 := by have := numDigits_eq u hu1 hu64; split at this <;> omega
    obtain ⟨T, hT⟩ : ∃ T, T = (77 : TypeId) := ⟨_, rfl⟩
    obtain ⟨nd, hnd⟩ : ∃ n, nDigits u = n := ⟨_, rfl⟩
    have hal : Tryd.prog.arrayLen 77 = 24 := by kernel_rfl
    have hsl : ∀ W, (Instr.sliceAt 77 (.pointer (some ⟨w.heap.size, 0, none⟩)) none (some (.int .i64 (nd : Int))) none).run Tryd.prog W = .ok (.slice (some ⟨w.heap.size, 0, none⟩) nd 24) W := fun W => by
      rw [run_sliceAt_array_h W 77 ⟨w.heap.size, 0, none⟩ (by kernel_rfl) .i64 (nd : Int) (by omega) (by rw [hal]; omega)]
      go_simp
    have hH0 := holds_zero0 w 77 nd (by omega)
    have hfmt := Tryd.internal_strconv_formatBase10 w.heap.size 0 24 u (Array.replicate nd 0) (w.alloc (.cells zeros24 77)) hH0 (by rw [Array.size_replicate, ← hnd]; exact lt_pow_nDigits u) hu64 (by rw [Array.size_replicate]; omega)
    rw [Array.size_replicate] at hfmt
    have HF := Go.Proofs.YtjipcmhknikcgaaDoor.hid hfmt
    have HH0 := Go.Proofs.YtjipcmhknikcgaaDoor.hid hH0
    have HND := Go.Proofs.YtjipcmhknikcgaaDoor.hid hnd
    have CN : Hid (Calls Tryd.prog 38 #[.int .u64 u] (w.alloc (.cells zeros24 77)) fun e w' => e = .returned (.int .i64 (nd : Int)) ∧ w' = w.alloc (.cells zeros24 77)) := Go.Proofs.YtjipcmhknikcgaaDoor.hid (by rw [← hnd]; exact Tryd.internal_strconv_numDigits u hu1 hu64 _ (Tb.is (ht.kept ((Kp.refl Nb w).alloc _) (fun h => h))))
    clear hfmt hH0 hnd hal ht hT
    go_enter Tryd.func32, Tryd.ntmps32
    go_wp2_with fail
    refine CN.out.mono ?_
    rintro e w' ⟨rfl, rfl⟩
    go_wp2_with fail
    refine HF.out.mono ?_
    rintro e w' ⟨rfl, k, v', dk, rfl, hF⟩
    have hcv : (convert 68 9 (.slice (some ⟨w.heap.size, 0, none⟩) nd 24)).run Tryd.prog ((putRow encB (w.alloc (.cells zeros24 77)) w.heap.size 0 dk).drewN k) = .ok (.string (decB u)) ((putRow encB (w.alloc (.cells zeros24 77)) w.heap.size 0 dk).drewN k) := by
      have hF' : FmtInv (nDigits u) u 0 v' dk := by rw [HND.out]; exact hF
      have h := run_convert_bytes_back (P := Tryd.prog) ((putRow encB (w.alloc (.cells zeros24 77)) w.heap.size 0 dk).drewN k) 68 9 5 ⟨w.heap.size, 0, none⟩ 24 (decDigits u) Tryd.underlying68 Tryd.underlying5 Tryd.underlying9 (fun j hj => by
        rw [row_is_numeral hF' j hj, add_plain, World.cell?_drewN]
        exact cell?_putRow encB _ w.heap.size 0 _ dk HH0.out (by rw [hF.size, Array.size_replicate]) j (by rw [hF.size]; rw [decDigits_length, HND.out] at hj; exact hj))
      rw [decDigits_length, HND.out] at h
      exact h
    obtain ⟨W9, hW9⟩ : ∃ W, (putRow encB (w.alloc (.cells zeros24 77)) w.heap.size 0 dk).drewN k = W := ⟨_, rfl⟩
    have K9 : Kp Nb w W9 := by rw [← hW9]; exact kp_putRow w _ dk k
    rw [hW9] at hcv ⊢
    have K9 := Go.Proofs.YtjipcmhknikcgaaDoor.hid K9
    clear hW9 hF HF HH0
    go_wp2
    go_ret
    exact ⟨rfl, K9.out⟩

end Go.Proofs.YtjipcmhknikcgaaDoor
