/-
  Layer 14: the law SizesHold. Conditions: cells are what their kind holds.
  PROVED: 'SizesHoldSaid': whatever the guess and the cells, SizesHold returns true and the input reads as it did. No condition.
-/
import Derived.Test.YteedceepoindeaaPkS
import Derived.Test.YteedceepoindeaaPkP
import Derived.Test.YteedceepoindeaaCelK
import Derived.Test.YteedceepoindeaaIbE
import Derived.Test.YteedceepoindeaaPkI
import Derived.Test.YteedceepoindeaaRows
import Derived.Test.YteedceepoindeaaOpenCells
namespace Go.Proofs.Yteedceepoindeaa
open Go.RowKit Go.Shelf
attribute [local go_sem] Oper.semAt_some

theorem fitsB_cells (g : Int) : fitsB (cellsZ g) = true := by
  unfold cellsZ
  exact fitsB_t (by omega) (by omega) (by omega)
theorem sizeZ_fits (g : Int) : ∀ j, fitsB (sizeZ g j) = true
  | 0 => fitsB_cells g
  | j + 1 => by
    have h := fitsB_spec (sizeZ_fits g j)
    show fitsB (nextZ (sizeZ g j)) = true
    unfold nextZ
    rw [if_pos (sizeZ_fits g j)]
    rcases Int.le_total (2 * sizeZ g j) 1536 with a | a
    · rw [Int.min_eq_left a]; exact fitsB_t (by omega) a (by omega)
    · rw [Int.min_eq_right a]; exact fitsB_t (by omega) (by omega) (by omega)
theorem sizeZ_le (g : Int) (j : Nat) : sizeZ g j ≤ sizeZ g (j + 1) := by
  have h := fitsB_spec (sizeZ_fits g j)
  show sizeZ g j ≤ nextZ (sizeZ g j)
  unfold nextZ
  rw [if_pos (sizeZ_fits g j)]
  omega
theorem sizeZ_great (g : Int) : ∀ j, 1536 ≤ sizeZ g j ∨ 3 * max 0 (min g 4096) ≤ 2 * sizeZ g j
  | 0 => by show 1536 ≤ cellsZ g ∨ _; show _ ∨ 3 * max 0 (min g 4096) ≤ 2 * cellsZ g; unfold cellsZ; omega
  | j + 1 => by have := sizeZ_le g j; rcases sizeZ_great g j with h | h <;> omega
def PaR (z : Int) (PZ : Nat) (w2 : World) (i a : Value) (wr : World) : Prop := ∃ p : Nat, p ≤ PZ ∧ i = .int .i64 p ∧ a = .int .i64 (min (48 * (p : Int)) z) ∧ Hid (w2 = wr)
theorem part_facts {z : Int} {PZ p : Nat} (hf : fitsB z = true) (he : partsZ z = (PZ : Int)) (hp : p < PZ) : fromZ z p = min (48 * (p : Int)) z ∧ toZ z p = min (48 * ((p + 1 : Nat) : Int)) z ∧ partB z p = true ∧ min (48 * (p : Int)) z < min (48 * ((p + 1 : Nat) : Int)) z := by
  have h := fitsB_spec hf
  have hz := partsZ_t hf
  have hb : partB z p = true := by unfold partB; exact decide_eq_true (by omega)
  refine ⟨?_, ?_, hb, ?_⟩
  · unfold fromZ; rw [if_pos hb]; omega
  · unfold toZ; rw [if_pos hb]; omega
  · omega
theorem part_end {z : Int} {PZ : Nat} (hf : fitsB z = true) (he : partsZ z = (PZ : Int)) : min (48 * (PZ : Int)) z = z := by
  have h := fitsB_spec hf
  have hz := partsZ_t hf
  omega
theorem num_short (c : Int) (h : crightB c = true) : (numBytes (zigI c)).length ≤ 4 := by
  have hc : -1048576 ≤ c ∧ c ≤ 1048576 := of_decide_eq_true h
  have hz := zig_is c (by omega) (by omega)
  have hb : 0 ≤ zigI c ∧ zigI c ≤ 2097152 := by rw [hz]; split <;> omega
  unfold numBytes
  split
  · simp
  · have hk : kOf (zigI c) ≤ 3 := by
      have h1 := bitLen_bounds (zigI c).toNat (by omega) (by omega)
      have h2 : Lib.bitLen (zigI c).toNat ≤ 22 := by
        rcases Nat.lt_or_ge 22 (Lib.bitLen (zigI c).toNat) with h3 | h3
        · have h4 : 2 ^ 22 ≤ 2 ^ (Lib.bitLen (zigI c).toNat - 1) := Nat.pow_le_pow_right (by decide) (by omega)
          have h5 : (2 : Nat) ^ 22 = 4194304 := by decide
          omega
        · exact h3
      unfold kOf
      omega
    unfold digits
    simp only [List.length_append, List.length_singleton, List.length_map, List.length_range]
    omega
theorem cell_short (x : Cel) (hx : CelOk x) (h : crightB x.1 = true) : (cellBytes x.1 x.2.1 x.2.2).length ≤ 28 := by
  have := num_short x.1 h
  have hm := hx.mark.len
  unfold cellBytes
  simp only [List.length_append, eightL, eightK_length]
  omega
set_option maxHeartbeats 400000 in
theorem cput_bad (B : Nat) (x : Cel) (w : World) (hx : CelOk x) (hr : crightB x.1 = false) :
    Calls Try.prog 33 #[.pointer (some ⟨B, 0, none⟩), cv x] w fun e w' => e = .returned (.bool false) ∧ Kp Nb w w' := by
  have HO := hid hx
  obtain ⟨du, hu, hd⟩ := cell_under
  have HU := hid hu
  have CX := hid (cell_infoL x.1 x.2.1 x.2.2 hx.mark.len)
  have CR : Hid (∀ w, Calls Try.prog 55 #[cv x] w fun e w' => e = .returned (.bool false) ∧ Kp Nb w w') := hid (fun w => by rw [← hr]; exact cright_any x.1 x.2.1 x.2.2 w)
  have HB := hid (Blk.new w 41 (cl x))
  have K0 := hid ((Kp.refl Nb w).alloc (.cells (cl x).toArray 41))
  clear hx hr hu
  go_enter Try.func33, Try.ntmps33
  go_wp2_with (refine wpList_load_mid (by rfl) 41 (.tmp 3) (by rfl) w.heap.size 0 (by rfl) (cl x) du (range_of HB.out) HU.out hd CX.out ?_)
  refine (CR.out _).mono ?_
  rintro e w1 ⟨rfl, k1⟩
  have K9 := hid (K0.out.trans k1 (fun _ _ h => h))
  clear k1
  go_wp2
  go_ret
  exact ⟨rfl, K9.out⟩
theorem wpList_load_gs {P : Program} {d : TypeDesc} {ops : Array Oper} {rest : List Oper} {op : Oper} {a : Act} {w : World} {Q : Exit → Act → World → Prop} (hw : Region.wanted op (yielded ops a.tmps) = true) (ty : TypeId) (x : Operand) (ho : op.op = .load ty x)
    (b o : Nat) (hx : a.eval x = .pointer (some ⟨b, o, none⟩)) (cs : List Value) (hc : w.rangeAt b o cs) (hu : P.underlying ty = some d) (hd : d.isRow = true) (hi : (P.info? ty).map (·.size) = some cs.length)
    (h : wpList P ops Q rest (a.put op.dst (.agg cs.toArray)) w) : wpList P ops Q (op :: rest) a w :=
  wpList_step fun K hK => by rw [if_pos hw]; exact wp_load_mid ty x ho b o hx cs d hc hu hd hi (hK _ _ h)
/-- Whatever the cell: put if it is right, and then in no more than 28 bytes. -/
theorem cput_both (B : Nat) (v : Value) (zs : List Int) (x : Cel) (w : World) (h : PenAt w B v zs) (hx : CelOk x) (hl : zs.length + 64 ≤ 140737488355328) :
    Calls Try.prog 33 #[.pointer (some ⟨B, 0, none⟩), cv x] w fun e w' => e = .returned (.bool (crightB x.1)) ∧ ∃ v' zs', PenAt w' B v' zs' ∧ zs'.length ≤ zs.length + 28 ∧ PenTo w w' B v v' := by
  cases hr : crightB x.1 with
  | true =>
    refine (cput_any B v zs x.1 x.2.1 x.2.2 w h hx.mark hr hl).mono ?_
    rintro e w' ⟨rfl, v', h1, h2⟩
    exact ⟨rfl, v', _, h1, by rw [List.length_append]; have := cell_short x hx hr; omega, h2⟩
  | false =>
    refine (cput_bad B x w hx hr).mono ?_
    rintro e w' ⟨rfl, k⟩
    exact ⟨rfl, v, zs, h.kept k (fun h => h) (fun _ _ h => h), by omega, penTo_nb k⟩

def RnR (w2 : World) (i : Value) (wr : World) : Prop := ∃ j : Nat, j ≤ 4 ∧ i = .int .i64 j ∧ Hid (w2 = wr)
def PuR (w8 : World) (P n : Nat) (i : Value) (wr : World) : Prop := ∃ (k : Nat) (v : Value) (zs : List Int), k ≤ n ∧ i = .int .i64 k ∧ Hid (PenAt wr P v zs) ∧ Hid (zs.length ≤ 28 * k) ∧ Hid (∀ g, v.ownBlock = some g → w8.heap.size ≤ g) ∧ Hid (Kp (Jb P) w8 wr)
theorem not_pen {w : World} {P blk off T : Nat} {v : Value} {x : Cel} (h : Blk w P T [v]) (hv : v.ownBlock = none) (hs : ∃ a n c, v = .slice a n c) (hr : w.rangeAt blk off (cl x)) : blk ≠ P := by
  rintro rfl
  have h1 := hr 0 (.int .i64 x.1) rfl
  have h2 := h.cell (off + 0)
  obtain ⟨a, n, c, rfl⟩ := hs
  rw [h1] at h2
  rcases Nat.eq_zero_or_pos (off + 0) with e | e
  · rw [e] at h2; simp at h2
  · rw [List.getElem?_eq_none (by simp; omega)] at h2; cases h2

set_option maxRecDepth 100000 in
set_option maxHeartbeats 8000000 in
theorem shold_any (g : Int) (v : Value) (cs : List Cel) (w : World) (hs : RowsSl cl c0 18 w v cs) (ho : AllOk cs) :
    Calls Try.prog 7 #[.int .i64 g, v] w fun e w' => e = .returned (.bool true) ∧ Kp Nb w w' := by
  obtain ⟨y, d, rfl⟩ := hs.shape
  have HS := hid hs
  have HO := hid ho
  obtain ⟨n, hn⟩ : ∃ n, cs.length = n := ⟨_, rfl⟩
  have HN := hid hn
  rw [hn] at HS ⊢
  clear hs ho hn
  by_cases hbig : 60 < n
  · have d1 : decide ((n : Int) > 60) = true := decide_eq_true (by omega)
    go_enter Try.func7, Try.ntmps7
    go_wp2_with fail
    refine (first14_any _).mono ?_
    rintro e w1 ⟨rfl, k1⟩
    have K1 := hid k1
    clear k1
    go_wp2
    go_ret
    exact ⟨rfl, K1.out⟩
  · have d1 : decide ((n : Int) > 60) = false := decide_eq_false (by omega)
    have NB : Hid (n ≤ 60) := hid (by omega)
    clear hbig
    go_enter Try.func7, Try.ntmps7
    go_wp2_with fail
    refine (first14_any _).mono ?_
    rintro e w1 ⟨rfl, k1⟩
    have K1 := hid k1
    have HS1 := hid (HS.out.kept k1)
    clear k1 HS
    go_wp2_with fail
    refine (rounds_len g 9 4 (by decide) _).mono ?_
    rintro e w2 ⟨⟨x1, d1', x2, d2, rfl, HR⟩, k2⟩
    have HS2 := hid (HS1.out.kept k2)
    have K2 := hid (K1.out.trans k2 (fun _ _ h => h))
    obtain ⟨b1, b2, rfl, rfl, -, -⟩ := HR.out 0 (by decide)
    have HC : Hid (∀ j, j < 4 → w2.cell? ⟨b2, j, none⟩ = some (.int .i64 (sizeZ g j))) := hid (fun j hj => by
      obtain ⟨c1, c2, -, e, -, h⟩ := HR.out j hj
      simp only [Option.some.injEq, Addr.mk.injEq, and_true] at e
      rw [e]
      exact h)
    obtain ⟨G, hG⟩ : ∃ G, max 0 (min g 4096) = G := ⟨_, rfl⟩
    have GB : Hid (0 ≤ G ∧ G ≤ 4096) := hid (by omega)
    have GE := hid hG
    clear k2 HS1 K1 HR d1
    go_wp2
    clear hG
    go_loopw [35] (RnR w2) (fun i _ => 4 - (intOf i).toNat)
    case atStart => exact ⟨0, Nat.zero_le _, rfl, hid rfl⟩
    case round =>
      obtain ⟨j, hj, rfl, HW⟩ := hrel
      obtain rfl := HW.out
      by_cases hlt : j < 4
      · have FZ := hid (sizeZ_fits g j)
        have ZB := hid (fitsB_spec FZ.out)
        have F3 := hid (sizeZ_great g j)
        rw [GE.out] at F3
        have q1 := HC.out j hlt
        have RE : Hid (RnR w2 (.int .i64 ((j : Int) + 1)) w2) := hid ⟨j + 1, by omega, by go_num, hid rfl⟩
        have hmono : ∀ i, i + 1 = j → sizeZ g i ≤ sizeZ g j := fun i hi => by rw [← hi]; exact sizeZ_le g i
        have HMO := hid hmono
        obtain ⟨z, hz⟩ : ∃ z, sizeZ g j = z := ⟨_, rfl⟩
        rw [hz] at FZ ZB F3 q1 HMO
        have CF : Hid (∀ w, Calls Try.prog 12 #[.int .i64 z] w fun e w' => e = .returned (.bool true) ∧ w = w') := hid (fun w => by rw [← FZ.out]; exact sfits_any z w)
        obtain ⟨PZ, hPZ⟩ : ∃ PZ : Nat, partsZ z = (PZ : Int) := ⟨(partsZ z).toNat, by have := partsZ_le z; omega⟩
        have PE := hid hPZ
        have CP : Hid (∀ w, Calls Try.prog 31 #[.int .i64 z] w fun e w' => e = .returned (.int .i64 (PZ : Int)) ∧ w = w') := hid (fun w => by rw [← hPZ]; exact parts_any z w)
        have MZ : Hid (min (48 * ((0 : Nat) : Int)) z = 0) := hid (by have := ZB.out; omega)
        clear hmono hz hPZ
        by_cases hj0 : j = 0
        · subst hj0
          by_cases hz6 : z < 1536
          · have d6 : decide (z < 1536) = true := decide_eq_true hz6
            have d2 : decide (2 * z < 3 * G) = false := decide_eq_false (by rcases F3.out with h | h <;> omega)
            have d3 : IntKind.i64.wrap (2 * z) = 2 * z := by rw [IntKind.wrap_i64]; have := ZB.out; omega
            have d4 : IntKind.i64.wrap (3 * G) = 3 * G := by rw [IntKind.wrap_i64]; have := GB.out; omega
            go_wp2_with fail
            refine (CF.out _).mono ?_
            rintro e wf ⟨rfl, rfl⟩
            go_wp2_with fail
            refine (CP.out _).mono ?_
            rintro e wp ⟨rfl, rfl⟩
            go_wp2
            go_loopw [69, 10] (PaR z PZ w2) (fun i _ _ => PZ - (intOf i).toNat)
            case atStart => exact ⟨0, Nat.zero_le _, rfl, by rw [MZ.out], hid rfl⟩
            case round =>
              obtain ⟨p, hp, rfl, rfl, HWq⟩ := hrel
              obtain rfl := HWq.out
              by_cases hlt : p < PZ
              · have PF := hid (part_facts FZ.out PE.out hlt)
                obtain ⟨A, hA⟩ : ∃ A, min (48 * (p : Int)) z = A := ⟨_, rfl⟩
                obtain ⟨T, hT⟩ : ∃ T, min (48 * ((p + 1 : Nat) : Int)) z = T := ⟨_, rfl⟩
                have CR : Hid (∀ w, Calls Try.prog 32 #[.int .i64 z, .int .i64 (p : Int)] w fun e w' => e = .returned (.tuple #[.int .i64 A, .int .i64 T, .bool true]) ∧ w = w') := hid (fun w => by
                  have h := range_any z p w
                  rw [PF.out.1, PF.out.2.1, PF.out.2.2.1, hA, hT] at h
                  exact h)
                have d1 : decide (T ≤ A) = false := decide_eq_false (by rw [← hA, ← hT]; have := PF.out.2.2.2; omega)
                have HTT := hid hT
                rw [hA]
                have hp9 : p ≤ 32 := by have := PE.out; have := partsZ_le z; omega
                clear hA hT
                go_wp2_with fail
                refine (CR.out _).mono ?_
                rintro e wq ⟨rfl, rfl⟩
                go_wp2
                go_roundw
                case rel => exact ⟨p + 1, by omega, by go_num, by rw [HTT.out], hid rfl⟩
                case measure => simp [intOf] <;> omega
              · obtain rfl : p = PZ := by omega
                have e9 := part_end FZ.out PE.out
                rw [e9]
                clear e9
                go_wp2
                go_roundw
                case rel => exact RE.out
                case measure => simp [intOf] <;> omega
          · have d6 : decide (z < 1536) = false := decide_eq_false hz6
            go_wp2_with fail
            refine (CF.out _).mono ?_
            rintro e wf ⟨rfl, rfl⟩
            go_wp2_with fail
            refine (CP.out _).mono ?_
            rintro e wp ⟨rfl, rfl⟩
            go_wp2
            go_loopw [69, 10] (PaR z PZ w2) (fun i _ _ => PZ - (intOf i).toNat)
            case atStart => exact ⟨0, Nat.zero_le _, rfl, by rw [MZ.out], hid rfl⟩
            case round =>
              obtain ⟨p, hp, rfl, rfl, HWq⟩ := hrel
              obtain rfl := HWq.out
              by_cases hlt : p < PZ
              · have PF := hid (part_facts FZ.out PE.out hlt)
                obtain ⟨A, hA⟩ : ∃ A, min (48 * (p : Int)) z = A := ⟨_, rfl⟩
                obtain ⟨T, hT⟩ : ∃ T, min (48 * ((p + 1 : Nat) : Int)) z = T := ⟨_, rfl⟩
                have CR : Hid (∀ w, Calls Try.prog 32 #[.int .i64 z, .int .i64 (p : Int)] w fun e w' => e = .returned (.tuple #[.int .i64 A, .int .i64 T, .bool true]) ∧ w = w') := hid (fun w => by
                  have h := range_any z p w
                  rw [PF.out.1, PF.out.2.1, PF.out.2.2.1, hA, hT] at h
                  exact h)
                have d1 : decide (T ≤ A) = false := decide_eq_false (by rw [← hA, ← hT]; have := PF.out.2.2.2; omega)
                have HTT := hid hT
                rw [hA]
                have hp9 : p ≤ 32 := by have := PE.out; have := partsZ_le z; omega
                clear hA hT
                go_wp2_with fail
                refine (CR.out _).mono ?_
                rintro e wq ⟨rfl, rfl⟩
                go_wp2
                go_roundw
                case rel => exact ⟨p + 1, by omega, by go_num, by rw [HTT.out], hid rfl⟩
                case measure => simp [intOf] <;> omega
              · obtain rfl : p = PZ := by omega
                have e9 := part_end FZ.out PE.out
                rw [e9]
                clear e9
                go_wp2
                go_roundw
                case rel => exact RE.out
                case measure => simp [intOf] <;> omega
        · have FN : 0 < j := by omega
          obtain ⟨i, hi⟩ : ∃ i, j = i + 1 := ⟨j - 1, by omega⟩
          have q2 := HC.out i (by omega)
          have hle := HMO.out i (by omega)
          obtain ⟨u, hu⟩ : ∃ u, sizeZ g i = u := ⟨_, rfl⟩
          rw [hu] at q2 hle
          have d7 : decide (z < u) = false := decide_eq_false (by omega)
          have HI : (j : Int) - 1 = (i : Int) := by omega
          have hi4 : i < 4 := by omega
          clear hi hu hle
          by_cases hz6 : z < 1536
          · have d6 : decide (z < 1536) = true := decide_eq_true hz6
            have d2 : decide (2 * z < 3 * G) = false := decide_eq_false (by rcases F3.out with h | h <;> omega)
            have d3 : IntKind.i64.wrap (2 * z) = 2 * z := by rw [IntKind.wrap_i64]; have := ZB.out; omega
            have d4 : IntKind.i64.wrap (3 * G) = 3 * G := by rw [IntKind.wrap_i64]; have := GB.out; omega
            go_wp2_with fail
            refine (CF.out _).mono ?_
            rintro e wf ⟨rfl, rfl⟩
            go_wp2_with fail
            refine (CP.out _).mono ?_
            rintro e wp ⟨rfl, rfl⟩
            go_wp2
            go_loopw [69, 10] (PaR z PZ w2) (fun i _ _ => PZ - (intOf i).toNat)
            case atStart => exact ⟨0, Nat.zero_le _, rfl, by rw [MZ.out], hid rfl⟩
            case round =>
              obtain ⟨p, hp, rfl, rfl, HWq⟩ := hrel
              obtain rfl := HWq.out
              by_cases hlt : p < PZ
              · have PF := hid (part_facts FZ.out PE.out hlt)
                obtain ⟨A, hA⟩ : ∃ A, min (48 * (p : Int)) z = A := ⟨_, rfl⟩
                obtain ⟨T, hT⟩ : ∃ T, min (48 * ((p + 1 : Nat) : Int)) z = T := ⟨_, rfl⟩
                have CR : Hid (∀ w, Calls Try.prog 32 #[.int .i64 z, .int .i64 (p : Int)] w fun e w' => e = .returned (.tuple #[.int .i64 A, .int .i64 T, .bool true]) ∧ w = w') := hid (fun w => by
                  have h := range_any z p w
                  rw [PF.out.1, PF.out.2.1, PF.out.2.2.1, hA, hT] at h
                  exact h)
                have d1 : decide (T ≤ A) = false := decide_eq_false (by rw [← hA, ← hT]; have := PF.out.2.2.2; omega)
                have HTT := hid hT
                rw [hA]
                have hp9 : p ≤ 32 := by have := PE.out; have := partsZ_le z; omega
                clear hA hT
                go_wp2_with fail
                refine (CR.out _).mono ?_
                rintro e wq ⟨rfl, rfl⟩
                go_wp2
                go_roundw
                case rel => exact ⟨p + 1, by omega, by go_num, by rw [HTT.out], hid rfl⟩
                case measure => simp [intOf] <;> omega
              · obtain rfl : p = PZ := by omega
                have e9 := part_end FZ.out PE.out
                rw [e9]
                clear e9
                go_wp2
                go_roundw
                case rel => exact RE.out
                case measure => simp [intOf] <;> omega
          · have d6 : decide (z < 1536) = false := decide_eq_false hz6
            go_wp2_with fail
            refine (CF.out _).mono ?_
            rintro e wf ⟨rfl, rfl⟩
            go_wp2_with fail
            refine (CP.out _).mono ?_
            rintro e wp ⟨rfl, rfl⟩
            go_wp2
            go_loopw [69, 10] (PaR z PZ w2) (fun i _ _ => PZ - (intOf i).toNat)
            case atStart => exact ⟨0, Nat.zero_le _, rfl, by rw [MZ.out], hid rfl⟩
            case round =>
              obtain ⟨p, hp, rfl, rfl, HWq⟩ := hrel
              obtain rfl := HWq.out
              by_cases hlt : p < PZ
              · have PF := hid (part_facts FZ.out PE.out hlt)
                obtain ⟨A, hA⟩ : ∃ A, min (48 * (p : Int)) z = A := ⟨_, rfl⟩
                obtain ⟨T, hT⟩ : ∃ T, min (48 * ((p + 1 : Nat) : Int)) z = T := ⟨_, rfl⟩
                have CR : Hid (∀ w, Calls Try.prog 32 #[.int .i64 z, .int .i64 (p : Int)] w fun e w' => e = .returned (.tuple #[.int .i64 A, .int .i64 T, .bool true]) ∧ w = w') := hid (fun w => by
                  have h := range_any z p w
                  rw [PF.out.1, PF.out.2.1, PF.out.2.2.1, hA, hT] at h
                  exact h)
                have d1 : decide (T ≤ A) = false := decide_eq_false (by rw [← hA, ← hT]; have := PF.out.2.2.2; omega)
                have HTT := hid hT
                rw [hA]
                have hp9 : p ≤ 32 := by have := PE.out; have := partsZ_le z; omega
                clear hA hT
                go_wp2_with fail
                refine (CR.out _).mono ?_
                rintro e wq ⟨rfl, rfl⟩
                go_wp2
                go_roundw
                case rel => exact ⟨p + 1, by omega, by go_num, by rw [HTT.out], hid rfl⟩
                case measure => simp [intOf] <;> omega
              · obtain rfl : p = PZ := by omega
                have e9 := part_end FZ.out PE.out
                rw [e9]
                clear e9
                go_wp2
                go_roundw
                case rel => exact RE.out
                case measure => simp [intOf] <;> omega
      · have hj4 : j = 4 := by omega
        subst hj4
        clear HW HC
        cases hf : fitB (n : Int) with
        | false =>
          go_wp2_with fail
          refine (from_no _ cs w2 HS2.out (by rw [HN.out]; have := NB.out; omega) (by rw [HN.out]; exact hf)).mono ?_
          rintro e w3 ⟨rfl, rfl⟩
          go_wp2
          go_ret
          exact ⟨rfl, K2.out⟩
        | true =>
          have hn3 : 3 ≤ (n : Int) ∧ (n : Int) ≤ 1536 ∧ (n : Int) % 3 = 0 := of_decide_eq_true hf
          have N3 := hid hn3
          go_wp2_with fail
          refine (from_yes _ cs w2 HS2.out HO.out (by rw [HN.out]; exact hf)).mono ?_
          rintro e w3 ⟨B, C, rfl, s3, -, -, k3⟩
          have S3 := hid s3
          have K3 := hid (K2.out.trans k3 (fun _ _ h => h))
          obtain ⟨P, hP⟩ : ∃ P, P = w3.heap.size := ⟨_, rfl⟩
          obtain ⟨W4, hW4⟩ : ∃ W, W = w3.alloc (.cells #[.slice none 0 0] 70) := ⟨_, rfl⟩
          have P4 : Hid (PenAt W4 P (.slice none 0 0) []) := hid (by rw [hW4, hP]; exact pen_new w3)
          have k4 : Kp Nb w3 W4 := by rw [hW4]; exact (Kp.refl Nb w3).alloc _
          have S4 := hid (S3.out.kept k4 (fun h => h) (fun h => h))
          have K4 := hid (K3.out.trans k4 (fun _ _ h => h))
          have LP : Hid (w.heap.size ≤ P ∧ B < P ∧ C < P) := hid (by rw [hP]; exact ⟨K3.out.size, s3.lt.1, s3.lt.2⟩)
          clear s3 k3 k4 S3 K3 HS2 K2 hf hn3
          go_upto_region 28 with fail
          rw [show w3.alloc (.cells #[.slice none 0 0] 70) = W4 from hW4.symm, ← hP]
          clear hW4 hP
          go_wp2_with fail
          refine (gcells_any B C cs 99 W4 S4.out (by rw [HN.out]; have := NB.out; omega)).mono ?_
          rintro e w8 ⟨v8, rfl, r8, k8⟩
          rw [show cs.take (99 : Int).toNat = cs from List.take_of_length_le (by rw [HN.out]; have := NB.out; omega)] at r8
          have P8 := hid (P4.out.kept k8 (fun h => h) (fun _ _ h => h))
          have S8 := hid (S4.out.kept k8 (fun h => h) (fun h => h))
          have K8 := hid (K4.out.trans k8 (fun _ _ h => h))
          rcases r8 with ⟨_, e0⟩ | ⟨blk, off, cap, rfl, hc, hm, hcell⟩
          · have h1 := HN.out; have h2 := N3.out; rw [e0] at h1; simp at h1; omega
          have NP : Hid (blk ≠ P ∧ blk < w8.heap.size) := hid (by
            have h0 := hcell 0 (by rw [HN.out]; have := N3.out; omega)
            refine ⟨not_pen P8.out.blk rfl ⟨_, _, _, rfl⟩ h0, ?_⟩
            exact World.block_lt_of_cell? _ _ (h0 0 _ rfl))
          have HCL := hid hcell
          have PU0 : Hid (PuR w8 P n (.int .i64 0) w8) := hid ⟨0, .slice none 0 0, [], Nat.zero_le _, rfl, P8, hid (Nat.zero_le _), hid (fun g h => by simp [Value.ownBlock] at h), hid (Kp.refl _ _)⟩
          unfold maxLen at hm
          rw [HN.out] at hc ⊢
          clear k8 hcell P4 S4 K4 P8
          go_wp2
          go_loopw [109] (PuR w8 P n) (fun i _ => n - (intOf i).toNat)
          case atStart => exact PU0.out
          case round =>
            clear PU0
            obtain ⟨k, v, zs, hk, rfl, HP, HZL, HOW, HK⟩ := hrel
            by_cases hlt : k < n
            · have hr := hid (HCL.out k (by rw [HN.out]; exact hlt))
              have HR : Hid (wr.rangeAt blk (off + k * 18) (cl (celAt cs k))) := hid (fun j u hu => HK.out.cell (hr.out j u hu) (fun h => NP.out.1 h))
              have XO := hid (HO.out.at k)
              generalize celAt cs k = x at HR XO
              have hkn : k ≤ 60 := by have := NB.out; omega
              obtain ⟨d', hu, hd⟩ := cell_under
              have HU := hid hu
              have CI := hid (cell_infoL x.1 x.2.1 x.2.2 XO.out.mark.len)
              have hz := Blk.new wr 41 (cl c0)
              obtain ⟨W2, hW2⟩ : ∃ W, W = (wr.alloc (.cells (cl c0).toArray 41)).setCells wr.heap.size 0 (cl x) := ⟨_, rfl⟩
              have kW : Kp Nb wr W2 := by rw [hW2]; exact Kp.setCells (fun h => absurd h (Nat.lt_irrefl _)) _ 0 _ ((Kp.refl Nb wr).alloc _)
              have TH := hid (cell_there hz (cl_length c0_ok) XO.out)
              have SI := hid (cell_sized XO.out)
              have ON := hid (all_oneCell_toArray (cellL_one x.1 x.2.1 x.2.2))
              have HZ : Hid (Blk W2 wr.heap.size 41 (cl x)) := hid (by rw [hW2]; exact row_set hz (by rw [cl_length XO.out, cl_length c0_ok]))
              have HP2 := hid (HP.out.kept kW (fun h => h) (fun _ _ h => h))
              have HK2 := hid (HK.out.trans kW (fun _ _ h => h.elim))
              have NZ : Hid (¬ wr.heap.size = P ∧ ∀ g, v.ownBlock = some g → ¬ wr.heap.size = g) := hid ⟨by have := HP.out.lt; omega, fun g hg => by have := (HP.out.own.lt g hg).2; omega⟩
              clear hz kW hr hu HP HK
              go_upto_region 31 with (first
                | (refine wpList_load_mid (by rfl) 41 (.tmp 111) (by rfl) blk (off + k * 18) (by rfl) (cl x) d' HR.out HU.out hd CI.out ?_)
                | (refine wpList_store_mid (by rfl) 41 (.tmp 19) (.tmp 112) (by rfl) wr.heap.size 0 (cl x).toArray (by rfl) (by rfl) TH.out SI.out ON.out ?_))
              rw [show (wr.alloc (.cells #[.int .i64 0, .int .u8 0, .int .u8 0, .int .u8 0, .int .u8 0, .int .u8 0, .int .u8 0, .int .u8 0, .int .u8 0, .int .u8 0, .int .u8 0, .int .u8 0, .int .u8 0, .int .u8 0, .int .u8 0, .int .u8 0, .int .u8 0, .int .u64 0] 41)).setCells wr.heap.size 0 (cl x) = W2 from hW2.symm]
              clear hW2 TH SI ON
              generalize wr.heap.size = N5 at *
              go_wp2_with (refine wpList_load_mid (by rfl) 41 (.tmp 19) (by rfl) N5 0 (by rfl) (cl x) d' (range_of HZ.out) HU.out hd CI.out ?_)
              refine (cput_both P v zs x W2 HP2.out XO.out (by have := HZL.out; omega)).mono ?_
              rintro e wk ⟨rfl, v', zs', p', l', t'⟩
              have HZk := hid (HZ.out.kept t'.kp (fun h => h.elim (fun h => NZ.out.1 h) (fun h => NZ.out.2 _ h rfl)))
              have RE : Hid (∀ wq, Kp Nb wk wq → PuR w8 P n (.int .i64 ((k : Int) + 1)) wq) := hid (fun wq kq => ⟨k + 1, v', zs', by omega, by go_num, hid (p'.kept kq (fun h => h) (fun _ _ h => h)), hid (by have := HZL.out; omega), hid (fun g hg => by
                rcases t'.at' with e | e
                · exact HOW.out g (by rw [← e]; exact hg)
                · exact Nat.le_trans HK2.out.size (e g hg)), hid ((HK2.out.trans t'.kp (fun i hi h => by
                  rcases h with h | h
                  · exact h
                  · have := HOW.out i h; omega)).trans kq (fun _ _ h => h.elim))⟩)
              have CRR : Hid (∀ w, Calls Try.prog 34 #[cv x] w fun e w' => e = .returned (.bool (crightB x.1)) ∧ Kp Nb w w') := hid (fun w => rright_any x w)
              obtain ⟨b, hb⟩ : ∃ b, crightB x.1 = b := ⟨_, rfl⟩
              rw [hb] at CRR ⊢
              clear hb p' l' t' HP2 HK2 NZ HZ
              cases b with
              | true =>
                go_wp2
                go_roundw
                case rel => exact RE.out _ (Kp.refl _ _)
                case measure => simp [intOf] <;> omega
              | false =>
                go_wp2_with (refine wpList_load_gs (by first | rfl | kernel_rfl) 41 (.tmp 19) (by rfl) N5 0 (by rfl) (cl x) (range_of HZk.out) HU.out hd CI.out ?_)
                refine (CRR.out _).mono ?_
                rintro e wz ⟨rfl, kz⟩
                have RZ := hid (RE.out _ kz)
                clear kz
                go_wp2
                go_roundw
                case rel => exact RZ.out
                case measure => simp [intOf] <;> omega
            · obtain rfl : k = n := by omega
              have S9 := hid (S8.out.kept HK.out (fun h => by have h' : B = P := h; have := LP.out; omega) (fun h => by have h' : C = P := h; have := LP.out; omega))
              have K9 := hid (K8.out.trans HK.out (fun i hi h => by have h' : i = P := h; have := LP.out; omega))
              go_wp2_with fail
              refine (pen_bytes P v zs wr HP.out (by have := HZL.out; have := NB.out; omega)).mono ?_
              rintro e wa ⟨r, rfl, oa, ka⟩
              have CS := size_any B C cs wa (S9.out.kept ka (fun h => h) (fun h => h))
              rw [HN.out] at CS
              have HCS := hid CS
              have K10 := hid (K9.out.trans ka (fun _ _ h => h))
              obtain ⟨ra, rc, rfl⟩ := own_shape oa
              clear CS ka oa S9 K9 HP HK
              go_wp2_with fail
              refine HCS.out.mono ?_
              rintro e wb ⟨rfl, rfl⟩
              have CB : Hid (∀ w, Calls Try.prog 36 #[.int .i64 (k : Int)] w fun e w' => e = .returned (.int .i64 (28 * (k : Int))) ∧ w = w') := hid (fun w => by
                have h := bytes_any (k : Int) w
                have hz : bytesZ (k : Int) = 28 * (k : Int) := by
                  unfold bytesZ
                  rw [if_pos (fitsB_t N3.out.1 N3.out.2.1 N3.out.2.2)]
                rw [hz] at h
                exact h)
              go_wp2_with fail
              refine (CB.out _).mono ?_
              rintro e wc ⟨rfl, rfl⟩
              have d9 : decide ((zs.length : Int) ≤ 28 * (k : Int)) = true := decide_eq_true (by have := HZL.out; omega)
              go_wp2
              go_ret
              exact ⟨rfl, K10.out⟩

end Go.Proofs.Yteedceepoindeaa

namespace Go.Proofs.Yteedceepoindeaa
open Go.ChangeShapes Go.WideShapes Go.ChangeAt Go.RowKit

set_option maxRecDepth 100000 in
theorem shold_lifted (os : Os) (started : os.Started) (H : Type) (enc : TypeId × Value → H) :
    ReturnsInHanded {} Try.checked os 7 .any (Rows.sizesHoldSpec.pre6 enc Try.prog Try.f7 Rows.sizesHoldRow.domain false) (Rows.sizesHoldSpec.post enc Try.prog Try.f7 false true false false) := by
  refine returnsInHanded_of_change (C := Try.checked) own started (by kernel_rfl) Try.func7
    (ChangeSpec.witness6 (enc := enc) (C := Try.checked) false ⟨#[], #[.int .i64 0, .slice none 0 0], []⟩ 8 (by kernel_rfl) (by kernel_rfl) (by kernel_rfl) (by kernel_rfl)) ?_
  intro W base args ds gs before hval0 hW hcnd _
  have hval : ∀ (j : Nat) t v, Try.f7.params[j]? = some t → args[j]? = some v → Value.okWide Try.prog W .any base t v := hval0
  have hW' := hW
  obtain ⟨p, q, hA0, hV, rfl, hfz, hnd⟩ := hW
  have hA : DataW.TrodAll enc Try.prog W 0 (fun _ => true) true Try.f7.params.toList args.toList ds p := hA0
  rw [Try.params7] at hA hval
  obtain ⟨v0, vs0, d0, ds0, p0, q0, hargs, rfl, rfl, h0, r0⟩ := trodAll_cons hA
  obtain ⟨v1, vs1, d1, ds1, p1, q1, rfl, rfl, rfl, h1, r1⟩ := trodAll_cons r0
  obtain ⟨rfl, rfl, rfl⟩ := trodAll_nil r1
  obtain rfl : args = #[v0, v1] := by cases args; simp_all
  obtain ⟨rfl, rfl⟩ := trodVars_none hV
  have lt0 : ∀ x ∈ p0, x.block < W.heap.size := by obtain ⟨m, hm⟩ := h0; exact DataW.trod_lt m _ _ _ hm
  have lt1 : ∀ x ∈ p1, x.block < W.heap.size := by obtain ⟨m, hm⟩ := h1; exact DataW.trod_lt m _ _ _ hm
  obtain ⟨n0, rfl⟩ := okWide_int Try.underlying3 (hval 0 3 v0 rfl rfl)
  obtain ⟨l1, O1, S1⟩ := open_cellsv (hval 1 35 v1 rfl rfl) h1
  clear hA0 hval0
  refine (shold_any n0 v1 l1 W S1 O1).mono fun e W' ⟨he, kp⟩ => ?_
  subst he
  have bel : Below W.heap.size W W' := kp.below (Nat.le_refl _) (fun _ _ h => h)
  exact ⟨_, rfl, _, _, _, [], _, [], hW', trodAll_mk1 (shut_bool Try.underlying4 _), (trodAll_cons_mk (Below.trod laidOut (by kernel_rfl) (of_decide_eq_true (by kernel_rfl)) h0 bel lt0) (trodAll_cons_mk (Below.trod laidOut (by kernel_rfl) (of_decide_eq_true (by kernel_rfl)) h1 bel lt1) trodAll_mk0)), rfl, bel.frame _, fun h => by cases h⟩

theorem shold_over : Rows.sizesHoldRow.holds Try.pinned (OpenSpec.ofChange Rows.sizesHoldSpec) :=
  OpenClaim.holds_of_wide 7 Try.f7 rfl rfl rfl rfl rfl rfl rfl ⟨rfl, rfl, rfl, rfl, rfl⟩ rfl rfl rfl rfl rfl (by kernel_rfl) Try.func7 (by kernel_rfl)
    (of_decide_eq_true (by kernel_rfl)) (by unfold Func.isWrapper; first | (rw [if_pos (by decide +kernel)]; kernel_rfl) | (rw [if_neg (by decide +kernel)]; exact ⟨rfl, rfl⟩))
    (fun os started H enc _ => shold_lifted os started H enc)

theorem shold_said : Rows.SizesHoldSaid := shold_over
end Go.Proofs.Yteedceepoindeaa
