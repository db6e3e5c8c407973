/-
  Layer 9: slices.Compact at marks. Conditions: the marks lie in a block, none of it frozen; at most 100,000.
-/
import Derived.Test.YtijlmfmpfjjlpaaMaG
import Derived.Lib.SlicesCompact
namespace Go.Proofs.Ytijlmfmpfjjlpaa
open Go.RowKit Go.Shelf Go.Sort Go.Lib
attribute [local go_sem] Oper.semAt_some

theorem setMany_set (d : Array MkT) (i : Nat) (x : MkT) (hi : i < d.size) : setMany (flatK encM 16 d) (i * 16) (encM x) = flatK encM 16 (d.setIfInBounds i x) := by
  refine ext_get! (by simp) fun t ht => ?_
  have ht' : t < d.size * 16 := by simpa using ht
  rw [get_setMany _ _ _ t (by simpa using ht'), get_flatK _ _ _ t ht', get_flatK _ _ _ t (by simpa using ht'), encM_len]
  by_cases a : t / 16 = i
  · rw [if_pos ((blk_iff 16 i t (by decide)).2 a), a, getElem!_set_same d i x hi, show t - i * 16 = t % 16 from by omega]
  · rw [if_neg (fun h => a ((blk_iff 16 i t (by decide)).1 h)), getElem!_set_other d i _ x a]
theorem holdsK_set {w : World} {g off : Nat} {d : Array MkT} (h : HoldsK encM 16 w g off d) {i : Nat} (hi : i < d.size) (x : MkT) : HoldsK encM 16 (w.setCells g (off + i * 16) (encM x)) g off (d.setIfInBounds i x) := by
  have e : w.setCells g (off + i * 16) (encM x) = putRowK encM 16 w g off (d.setIfInBounds i x) := by
    have h1 := setCells_putRow w g off (encM x) (i * 16) (flatK encM 16 d) (by rw [encM_len, size_flatK]; have := Nat.mul_le_mul_right 16 (show i + 1 ≤ d.size from hi); omega)
    rw [show putRow id w g off (flatK encM 16 d) = w from putRow_self id w g off _ h, setMany_set d i x hi] at h1
    exact h1
  rw [e]
  exact holdsK_putRowK encM 16 w g off d _ h (by simp)
theorem holds_range {w : World} {g off : Nat} {d : Array MkT} (h : HoldsK encM 16 w g off d) {i : Nat} (hi : i < d.size) : w.rangeAt g (off + i * 16) (markL (d[i]!).1) := fun j u hu => by
  have hj := (List.getElem?_eq_some_iff.1 hu).1
  have hj' : j < 16 := by have := encM_len d[i]!; unfold encM at this; omega
  rw [(h.cell hi hj').1]
  unfold encM
  rw [← hu, List.getElem?_eq_getElem hj, getElem!_pos (markL (d[i]!).1) j hj]
theorem holds_there {w : World} {g off : Nat} {d : Array MkT} (h : HoldsK encM 16 w g off d) {i : Nat} (hi : i < d.size) : w.there g (off + i * 16) 16 := fun j hj => by
  obtain ⟨h1, h2⟩ := h.cell hi hj
  exact ⟨by rw [h1]; rfl, h2⟩
theorem mark_eqR {a b : List Int} (ha : MarkOk a) (hb : MarkOk b) (w : World) : (Op.equal 24 (markV a) (markV b)).run Try.prog w = .ok (decide (a = b)) w := run_mark_eqD 9998 a b ha.len hb.len w
theorem exec_eqM {ev : Operand → Value} {o : Oper} {x y : Operand} {t' : TypeId} {a b : List Int} {bb : Bool} {w : World} (ho : o.op = .binOp .eql 24 x y t') (hx : ev x = markV a) (hy : ev y = markV b) (ha : MarkOk a) (hb : MarkOk b) (h : decide (a = b) = bb) : (execOp ev o).run Try.prog w = .ok (.value (.bool bb)) w := by
  have h := h ▸ mark_eqR ha hb w
  obtain ⟨xs, hxs⟩ : ∃ xs : Array Value, (markL a).toArray = xs := ⟨_, rfl⟩
  obtain ⟨ys, hys⟩ : ∃ ys : Array Value, (markL b).toArray = ys := ⟨_, rfl⟩
  unfold markV at h hx hy
  rw [hxs] at h hx
  rw [hys] at h hy
  have h1 : Sem.run Try.prog (eqGuard .eql 24 x y (.agg xs) (.agg ys)) w = .ok () w := by go_simp
  have h2 : Sem.run Try.prog (binOp .eql 24 (.agg xs) (.agg ys)) w = .ok (.bool bb) w := by
    show Sem.run Try.prog (do pure (Value.bool (← Op.equal 24 (.agg xs) (.agg ys)))) w = _
    simp only [Sem.run_bind, Sem.run_pure, Result.andThen_ok, h]
  unfold execOp
  simp only [ho, hx, hy, Sem.run_bind, Sem.run_pure, Result.andThen_ok, h1, h2]
theorem exec_neqM {ev : Operand → Value} {o : Oper} {x y : Operand} {t' : TypeId} {a b : List Int} {bb : Bool} {w : World} (ho : o.op = .binOp .neq 24 x y t') (hx : ev x = markV a) (hy : ev y = markV b) (ha : MarkOk a) (hb : MarkOk b) (h : decide (a = b) = bb) : (execOp ev o).run Try.prog w = .ok (.value (.bool (!bb))) w := by
  have h := h ▸ mark_eqR ha hb w
  obtain ⟨xs, hxs⟩ : ∃ xs : Array Value, (markL a).toArray = xs := ⟨_, rfl⟩
  obtain ⟨ys, hys⟩ : ∃ ys : Array Value, (markL b).toArray = ys := ⟨_, rfl⟩
  unfold markV at h hx hy
  rw [hxs] at h hx
  rw [hys] at h hy
  have h1 : Sem.run Try.prog (eqGuard .neq 24 x y (.agg xs) (.agg ys)) w = .ok () w := by go_simp
  have h2 : Sem.run Try.prog (binOp .neq 24 (.agg xs) (.agg ys)) w = .ok (.bool (!bb)) w := by
    show Sem.run Try.prog (do pure (Value.bool (!(← Op.equal 24 (.agg xs) (.agg ys))))) w = _
    simp only [Sem.run_bind, Sem.run_pure, Result.andThen_ok, h]
  unfold execOp
  simp only [ho, hx, hy, Sem.run_bind, Sem.run_pure, Result.andThen_ok, h1, h2]
theorem sliceM_from (g off N cap k : Nat) (hk : k < N) (hN : N ≤ cap) (W : World) : (Instr.slice 22 (.slice (some ⟨g, off, none⟩) N cap) (some (.int .i64 (k : Int))) none none).run Try.prog W = .ok (.slice (some ⟨g, off + k * 16, none⟩) (N - k) (cap - k)) W := by
  rw [run_slice_l W _ _ _ _ (elem_under Try.underlying22) .i64 _ (by omega) (by omega), elem_of Try.underlying22, size_of mark_info]
  show Result.ok (sliced _ _ _ _ _) W = _
  unfold sliced
  rw [Int.toNat_natCast]
  congr 2
  show (if cap = k then some (⟨g, off, none⟩ : Addr) else some (Addr.add ⟨g, off, none⟩ (k * 16))) = _
  rw [add_mid, if_neg (by omega)]
theorem sliceM_to (g off N cap k : Nat) (hk : k ≤ N) (hN : N ≤ cap) (W : World) : (Instr.slice 22 (.slice (some ⟨g, off, none⟩) N cap) none (some (.int .i64 (k : Int))) none).run Try.prog W = .ok (.slice (some ⟨g, off, none⟩) k cap) W := by
  rw [run_slice_h W _ _ _ _ (elem_under Try.underlying22) .i64 _ (by omega) (by omega), elem_of Try.underlying22, size_of mark_info]
  show Result.ok (sliced _ _ _ _ _) W = _
  unfold sliced
  congr 2
  split <;> simp [Addr.add]
/-- clear of a row's elements from kk on. -/
theorem clear_run {w : World} {g off N cap kk : Nat} {d : Array MkT} (h : HoldsK encM 16 w g off d) (hN : d.size = N) (hk : kk < N) :
    ∃ W', (∀ ty, (Builtin.clear_ #[22] ty #[.slice (some ⟨g, off + kk * 16, none⟩) (N - kk) cap]).run Try.prog w = .ok (.tuple #[]) W') ∧ Kp (Jb g) w W' ∧ ∀ i, i < kk → W'.rangeAt g (off + i * 16) (markL (d[i]!).1) := by
  obtain ⟨i0, z0, hi, hz0, hz1, hz2, hz3⟩ := mark_info3
  obtain ⟨vs, hvs⟩ : ∃ vs, (Builtin.zeroCells z0.cells (N - kk)).toList = vs := ⟨_, rfl⟩
  have hlen : vs.length = (N - kk) * 16 := by rw [← hvs]; simp [Builtin.zeroCells, hz3]
  have hz : ∀ w, (zeroValue 24).run Try.prog w = .ok z0 w := fun w => by simp [zeroValue, typeInfo, hi, hz0]
  have hzc : ∀ v ∈ z0.cells.toList, v.oneCell' = true := by
    have e : z0 = markV (List.replicate 16 0) := by
      have h1 : ((Try.prog.info? 24).bind fun i => i.zero) = some (markV (List.replicate 16 0)) := by kernel_rfl
      rw [hi] at h1
      exact Option.some.inj (hz0.symm.trans h1)
    intro v hv
    rw [e] at hv
    exact markL_one' _ v (by simpa [Value.cells] using hv)
  have hone : ∀ v ∈ vs, v.oneCell' = true := fun v hv => by
    rw [← hvs] at hv
    simp only [Builtin.zeroCells, Array.toList_map, List.mem_map] at hv
    obtain ⟨i, hi', rfl⟩ := hv
    have : i % z0.cells.size < z0.cells.size := Nat.mod_lt _ (by rw [hz3]; decide)
    rw [getElem!_pos z0.cells (i % z0.cells.size) this]
    exact hzc _ (Array.getElem_mem_toList this)
  have hc : ∀ j, j < vs.length → (w.cell? ⟨g, off + kk * 16 + j, none⟩).isSome = true ∧ w.frozen? ⟨g, off + kk * 16 + j, none⟩ = false := fun j hj => by
    have h1 := h (kk * 16 + j) (by rw [size_flatK, hN]; rw [hlen] at hj; have := Nat.sub_mul N kk 16; omega)
    rw [show off + (kk * 16 + j) = off + kk * 16 + j from by omega] at h1
    exact ⟨by rw [h1.1]; rfl, h1.2⟩
  have hst := run_storeCells_cells (P := Try.prog) g (off + kk * 16) vs 0 w (fun j hj => by rw [Nat.add_zero]; exact (hc j hj).1) (fun j hj => by rw [Nat.add_zero]; exact (hc j hj).2) hone
  rw [Nat.add_zero] at hst
  refine ⟨w.setCells g (off + kk * 16) vs, fun ty => ?_, Kp.setCells (S := Jb g) (fun _ => rfl) _ _ _ (Kp.refl _ w), fun i hik => ?_⟩
  · obtain ⟨m, hm⟩ : ∃ m, N - kk = m + 1 := ⟨N - kk - 1, by omega⟩
    rw [hm] at hvs ⊢
    simp [Builtin.clear_, run_underlying Try.underlying22, hz, hvs, hst]
  · have e := setCells_putRow w g off vs (kk * 16) (flatK encM 16 d) (by rw [size_flatK, hlen, hN]; have := Nat.sub_mul N kk 16; have := Nat.mul_le_mul_right 16 (Nat.le_of_lt hk); omega)
    rw [show putRow id w g off (flatK encM 16 d) = w from putRow_self id w g off _ h] at e
    rw [e]
    intro j u hu
    have hj := (List.getElem?_eq_some_iff.1 hu).1
    have hj' : j < 16 := by have := encM_len d[i]!; unfold encM at this; omega
    have hlt : i * 16 + j < d.size * 16 := by have := Nat.mul_le_mul_right 16 (show i + 1 ≤ d.size from by omega); omega
    rw [show off + i * 16 + j = off + (i * 16 + j) from by omega, cell?_putRow id w g off (flatK encM 16 d) _ h (by simp) (i * 16 + j) (by simpa using hlt), get_setMany _ _ _ _ (by simpa using hlt),
      if_neg (by have := Nat.mul_le_mul_right 16 (show i + 1 ≤ kk from hik); omega), get_flatK _ _ _ _ hlt, show (i * 16 + j) / 16 = i from by omega, show (i * 16 + j) % 16 = j from by omega]
    unfold encM
    rw [← hu, List.getElem?_eq_getElem hj, getElem!_pos (markL (d[i]!).1) j hj]
    rfl
theorem exec_clear {P : Program} {ev : Operand → Value} {o : Oper} {x : Operand} {t : TypeId} {v : Value} {w w' : World} (ho : o.op = .call { callee := .builtin .clear, args := #[x], argTypes := #[t] }) (hx : ev x = v) (hl : ∀ ty, (Builtin.clear_ #[t] ty #[v]).run P w = .ok (.tuple #[]) w') : (execOp ev o).run P w = .ok (.value (.tuple #[])) w' := by
  simp [execOp, ho, resolve, invoke, builtin, hx, hl, Result.andThen]

def ComO (w : World) (d : Array MkT) (N : Nat) (i : Value) (wr : World) : Prop := ∃ k : Nat, 1 ≤ k ∧ k ≤ N ∧ i = .int .i64 k ∧ Hid (∀ j, j < k → keeps d j = true) ∧ Hid (Kp Nb w wr)
def ComI (w : World) (g off : Nat) (d : Array MkT) (N k : Nat) (i i2 : Value) (wr : World) : Prop := ∃ (kk k2 : Nat) (dk : Array MkT), i = .int .i64 kk ∧ i2 = .int .i64 k2 ∧ 1 ≤ k2 ∧ k + k2 ≤ N ∧ kk < k + k2 ∧ Hid (HoldsK encM 16 wr g off dk) ∧ Hid (CompInv d (k + k2) kk dk) ∧ Hid (Kp (Jb g) w wr)

set_option maxRecDepth 100000 in
set_option maxHeartbeats 4000000 in
theorem compact_some (g off cap : Nat) (d : Array MkT) (w : World) (hH : HoldsK encM 16 w g off d) (hg : g < w.heap.size) (hcap : d.size ≤ cap) (hbig : d.size ≤ 100000) :
    Calls Try.prog 38 #[.slice (some ⟨g, off, none⟩) d.size cap] w fun e w' => e = .returned (.slice (some ⟨g, off, none⟩) (compactUpTo d d.size).length cap) ∧
      (∀ i m, (compactUpTo d d.size)[i]? = some m → w'.rangeAt g (off + i * 16) (markL m.1)) ∧ Kp (Jb g) w w' := by
  obtain ⟨N, hN⟩ : ∃ N, d.size = N := ⟨_, rfl⟩
  have HN := hid hN
  have HH := hid hH
  have HG := hid hg
  rw [hN] at hcap hbig ⊢
  have HCM := hid (show N ≤ cap ∧ N ≤ 100000 from ⟨hcap, hbig⟩)
  have SAME : Hid (∀ wr, (∀ j, j < N → keeps d j = true) → Kp Nb w wr → (compactUpTo d N).length = N ∧ (∀ i m, (compactUpTo d N)[i]? = some m → wr.rangeAt g (off + i * 16) (markL m.1)) ∧ Kp (Jb g) w wr) := hid (fun wr hall k => by
    rw [compactUpTo_all d N hall]
    refine ⟨by simp, fun i m hm => ?_, ⟨k.os, k.tape, k.output, k.size, fun i hi _ => k.block i hi (fun h => h)⟩⟩
    rw [List.getElem?_map] at hm
    obtain ⟨i', hi', rfl⟩ := Option.map_eq_some_iff.1 hm
    obtain ⟨hl, e⟩ := List.getElem?_eq_some_iff.1 hi'
    rw [List.getElem_range] at e
    subst e
    rw [List.length_range] at hl
    exact range_kept (holds_range HH.out (by rw [HN.out]; exact hl)) k)
  have T0 : Hid (∀ j, j < 1 → keeps d j = true) := hid (keeps_lt_one d)
  have T1 := hid (Kp.refl Nb w)
  clear hH hg hN
  by_cases h2 : N < 2
  · go_enter Try.func38, Try.ntmps38
    go_wp2
    go_ret
    obtain ⟨e1, e2, e3⟩ := SAME.out w (fun j hj => keeps_lt_one d j (by omega)) (Kp.refl Nb w)
    exact ⟨by rw [e1]; rfl, e2, e3⟩
  · go_enter Try.func38, Try.ntmps38
    go_wp2
    go_loopw [3] (ComO w d N) (fun i _ => N - (intOf i).toNat)
    case atStart => exact ⟨1, Nat.le_refl _, by omega, rfl, T0, T1⟩
    case round =>
      clear T0 T1
      obtain ⟨k, hk1, hk, rfl, HA, HK⟩ := hrel
      by_cases hlt : k < N
      · have HLT := hid hlt
        obtain ⟨k0, rfl⟩ : ∃ k0, k = k0 + 1 := ⟨k - 1, by omega⟩
        obtain ⟨k, hkk⟩ : ∃ k, k0 + 1 = k := ⟨_, rfl⟩
        rw [hkk] at hlt hk1 hk HA HLT ⊢
        have HKK := hid hkk
        obtain ⟨x, hx⟩ : ∃ x, (d[k]!).1 = x := ⟨_, rfl⟩
        obtain ⟨y, hy⟩ : ∃ y, (d[k0]!).1 = y := ⟨_, rfl⟩
        have HLX : Hid (MarkOk x ∧ wr.rangeAt g (off + k * 16) (markL x)) := hid (by rw [← hx]; exact ⟨(d[k]!).2, range_kept (holds_range HH.out (by rw [HN.out]; exact hlt)) HK.out⟩)
        have HLY : Hid (MarkOk y ∧ wr.rangeAt g (off + k0 * 16) (markL y)) := hid (by rw [← hy]; exact ⟨(d[k0]!).2, range_kept (holds_range HH.out (by rw [HN.out]; omega)) HK.out⟩)
        obtain ⟨bb, hbb⟩ : ∃ b, decide (x = y) = b := ⟨_, rfl⟩
        have HBB := hid hbb
        have HXY := hid (show (d[k]!).1 = x ∧ (d[k0]!).1 = y from ⟨hx, hy⟩)
        have HK0 : Hid (IntKind.i64.wrap ((k : Int) - 1) = (k0 : Int)) := hid (by rw [IntWalk.i64_in _ (by have := HCM.out; omega)]; omega)
        have HB0 : Hid ((k0 : Int) < (N : Int) ∧ 0 ≤ (k0 : Int)) := hid (by omega)
        have HB1 : Hid ((k : Int) < (N : Int) ∧ 0 ≤ (k : Int)) := hid (by omega)
        clear hx hy hbb hkk
        go_wp2_with fail
        refine region_vals2 [none, none, none, none, none, none, none, none, none, none, none, none, none, none, none, none, some 0, some 1, some 2, some 3, some 4, some 5, some 6, some 7, some 8, some 9, none, none, none, none, none, none, none, none, none, none, none, none, none, none, none, none, none, none, none, none, none, none, none, none, none, none, none, none, none, none, none, none, none, none, none] [[(0, none)], [(3, none)], [(16, some 0), (17, some 1)], [(18, some 2)], [(0, none)], [(3, none)], [(21, some 5)], [(20, some 4), (22, some 6)], [(23, some 7)], [(19, some 3), (24, some 8)]] [some 16, some 17, some 18, some 19, some 20, some 21, some 22, some 23, some 24, some 25] [.slice (some ⟨g, off, none⟩) N cap, .int .i64 (k : Int), .pointer (some ⟨g, off + k * 16, none⟩), markV x, .slice (some ⟨g, off, none⟩) N cap, .int .i64 (k : Int), .int .i64 (k0 : Int), .pointer (some ⟨g, off + k0 * 16, none⟩), markV y, .bool bb] (fun w' => Hid (Kp Nb wr w')) (by kernel_rfl) (by kernel_rfl) (by kernel_rfl) ?hS (VFrom.all (n := 10) (by kernel_rfl) ?hstep) ?hend
        case hstep =>
          refine VFrom.cons (VStep.val _ rfl _ rfl (.slice (some ⟨g, off, none⟩) N cap) rfl trivial (fun ev wq hS he hr => ?_)) ?_
          · have r0 : ev (.tmp 0) = .slice (some ⟨g, off, none⟩) N cap := hr (0, none) (by simp); have hk := he.1; clear hr he
            go_simp
          refine VFrom.cons (VStep.val _ rfl _ rfl (.int .i64 (k : Int)) rfl trivial (fun ev wq hS he hr => ?_)) ?_
          · have r0 : ev (.tmp 3) = .int .i64 (k : Int) := hr (3, none) (by simp); have hk := he.1; clear hr he
            go_simp
          refine VFrom.cons (VStep.val _ rfl _ rfl (.pointer (some ⟨g, off + k * 16, none⟩)) rfl trivial (fun ev wq hS he hr => ?_)) ?_
          · have r0 : ev (.tmp 16) = .slice (some ⟨g, off, none⟩) N cap := hr (16, some 0) (by simp); have r1 : ev (.tmp 17) = .int .i64 (k : Int) := hr (17, some 1) (by simp); have hk := he.1; clear hr he
            have e1 := HB1.out
            go_simp
          refine VFrom.cons (VStep.val _ rfl _ rfl (markV x) rfl trivial (fun ev wq hS he hr => ?_)) ?_
          · have r0 : ev (.tmp 18) = .pointer (some ⟨g, off + k * 16, none⟩) := hr (18, some 2) (by simp); have hk := he.1; clear hr he
            exact exec_loadM rfl r0 (load_mark HLX.out.1 (range_kept HLX.out.2 hS.out))
          refine VFrom.cons (VStep.val _ rfl _ rfl (.slice (some ⟨g, off, none⟩) N cap) rfl trivial (fun ev wq hS he hr => ?_)) ?_
          · have r0 : ev (.tmp 0) = .slice (some ⟨g, off, none⟩) N cap := hr (0, none) (by simp); have hk := he.1; clear hr he
            go_simp
          refine VFrom.cons (VStep.val _ rfl _ rfl (.int .i64 (k : Int)) rfl trivial (fun ev wq hS he hr => ?_)) ?_
          · have r0 : ev (.tmp 3) = .int .i64 (k : Int) := hr (3, none) (by simp); have hk := he.1; clear hr he
            go_simp
          refine VFrom.cons (VStep.val _ rfl _ rfl (.int .i64 (k0 : Int)) rfl trivial (fun ev wq hS he hr => ?_)) ?_
          · have r0 : ev (.tmp 21) = .int .i64 (k : Int) := hr (21, some 5) (by simp); have hk := he.1; clear hr he
            have e1 := HK0.out
            go_simp
          refine VFrom.cons (VStep.val _ rfl _ rfl (.pointer (some ⟨g, off + k0 * 16, none⟩)) rfl trivial (fun ev wq hS he hr => ?_)) ?_
          · have r0 : ev (.tmp 20) = .slice (some ⟨g, off, none⟩) N cap := hr (20, some 4) (by simp); have r1 : ev (.tmp 22) = .int .i64 (k0 : Int) := hr (22, some 6) (by simp); have hk := he.1; clear hr he
            have e1 := HB0.out
            go_simp
          refine VFrom.cons (VStep.val _ rfl _ rfl (markV y) rfl trivial (fun ev wq hS he hr => ?_)) ?_
          · have r0 : ev (.tmp 23) = .pointer (some ⟨g, off + k0 * 16, none⟩) := hr (23, some 7) (by simp); have hk := he.1; clear hr he
            exact exec_loadM rfl r0 (load_mark HLY.out.1 (range_kept HLY.out.2 hS.out))
          refine VFrom.cons (VStep.val _ rfl _ rfl (.bool bb) rfl trivial (fun ev wq hS he hr => ?_)) ?_
          · have r0 : ev (.tmp 19) = markV x := hr (19, some 3) (by simp); have r1 : ev (.tmp 24) = markV y := hr (24, some 8) (by simp); have hk := he.1; clear hr he
            exact exec_eqM rfl r0 r1 HLX.out.1 HLY.out.1 HBB.out
          exact VFrom.nil
        case hS => exact hid (Kp.refl Nb wr).drew
        case hend =>
          intro wy hy
          have KY := hid (HK.out.trans hy.out (fun _ _ h => h))
          clear hy
          simp only [putAll, List.zip_cons_cons, List.zip_nil_right, List.foldl_cons, List.foldl_nil, Act.put, List.setIfInBounds_toArray, List.set_cons_zero, List.set_cons_succ]
          cases bb with
          | false =>
            have HNE := hid (of_decide_eq_false HBB.out)
            go_wp2
            go_roundw
            case rel =>
              refine ⟨k + 1, by omega, by omega, by go_num, hid (fun j hj => ?_), KY⟩
              by_cases e : j = k
              · subst e
                refine keeps_pos (fun e => HNE.out ?_)
                rw [show j - 1 = k0 from by have := HKK.out; omega] at e
                rw [← HXY.out.1, ← HXY.out.2, e]
              · exact HA.out j (by omega)
            case measure => have := HLT.out; simp [intOf]; omega
          | true =>
            have HEQ := hid (of_decide_eq_true HBB.out)
            have HI0 : Hid (CompInv d (k + 1) k d) := hid (CompInv.start HA.out (keeps_neg (by omega) (by
              rw [show k - 1 = k0 from by have := HKK.out; omega]
              exact Subtype.ext (by rw [HXY.out.1, HXY.out.2]; exact HEQ.out))))
            have HH0 : Hid (HoldsK encM 16 wy g off d) := hid (fun j hj => by
              have h1 := HH.out j hj
              have hb := KY.out.heap HG.out (fun h => h)
              refine ⟨(World.cell?_of_block hb).trans h1.1, ?_⟩
              have h2 := h1.2
              unfold World.frozen? at h2 ⊢
              rw [show wy.heap[(⟨g, off + j, none⟩ : Addr).block]? = w.heap[(⟨g, off + j, none⟩ : Addr).block]? from hb]
              exact h2)
            have KJ : Hid (Kp (Jb g) w wy) := hid ⟨KY.out.os, KY.out.tape, KY.out.output, KY.out.size, fun i hi _ => KY.out.block i hi (fun h => h)⟩
            obtain ⟨o2, ho2⟩ : ∃ o, off + k * 16 = o := ⟨_, rfl⟩
            obtain ⟨N2, hN2⟩ : ∃ o, N - k = o := ⟨_, rfl⟩
            obtain ⟨cap2, hc2⟩ : ∃ o, cap - k = o := ⟨_, rfl⟩
            have hsl := sliceM_from g off N cap k hlt hcap
            rw [ho2, hN2, hc2] at hsl
            have HO2 := hid ho2
            have HN2 := hid hN2
            clear ho2 hc2
            go_wp2
            clear hsl
            go_loopw [3, 5] (ComI w g off d N k) (fun _ i2 _ => N - (intOf i2).toNat)
            case atStart => exact ⟨k, 1, d, rfl, rfl, Nat.le_refl _, by omega, by omega, HH0, HI0, KJ⟩
            case round =>
              clear HI0 HH0 KJ KY HK HLX HLY
              obtain ⟨kk, k2, dk, rfl, rfl, hk21, hk2N, hkkl, HD, HI, HKJ⟩ := hrel
              have HDS : Hid (dk.size = N) := hid (by rw [HI.out.size]; exact HN.out)
              by_cases hlt2 : k2 < N2
              · have HLT2 := hid hlt2
                obtain ⟨p2, rfl⟩ : ∃ p2, k2 = p2 + 1 := ⟨k2 - 1, by omega⟩
                obtain ⟨k2, hkk2⟩ : ∃ k2, p2 + 1 = k2 := ⟨_, rfl⟩
                rw [hkk2] at hlt2 hk21 hk2N hkkl HI HLT2 ⊢
                have HKK2 := hid hkk2
                have hm : k + k2 < N := by have := HN2.out; omega
                have HM := hid hm
                obtain ⟨u, hu⟩ : ∃ u, (d[k + k2]!).1 = u := ⟨_, rfl⟩
                obtain ⟨v, hv⟩ : ∃ v, (d[k + k2 - 1]!).1 = v := ⟨_, rfl⟩
                have HLU : Hid (MarkOk u ∧ wr.rangeAt g (o2 + k2 * 16) (markL u)) := hid (by
                  rw [← hu, ← HI.out.high (k + k2) (by omega), ← HO2.out, show off + k * 16 + k2 * 16 = off + (k + k2) * 16 from by omega]
                  exact ⟨(dk[k + k2]!).2, holds_range HD.out (by rw [HDS.out]; omega)⟩)
                have HLV : Hid (MarkOk v ∧ wr.rangeAt g (o2 + p2 * 16) (markL v)) := hid (by
                  rw [← hv, ← HI.out.high (k + k2 - 1) (by omega), ← HO2.out, show off + k * 16 + p2 * 16 = off + (k + k2 - 1) * 16 from by omega]
                  exact ⟨(dk[k + k2 - 1]!).2, holds_range HD.out (by rw [HDS.out]; omega)⟩)
                obtain ⟨bb, hbb⟩ : ∃ b, decide (u = v) = b := ⟨_, rfl⟩
                have HBB2 := hid hbb
                have HUV := hid (show (d[k + k2]!).1 = u ∧ (d[k + k2 - 1]!).1 = v from ⟨hu, hv⟩)
                have HK2 : Hid (IntKind.i64.wrap ((k2 : Int) - 1) = (p2 : Int)) := hid (by rw [IntWalk.i64_in _ (by have := HCM.out; omega)]; omega)
                have HB2 : Hid ((p2 : Int) < (N2 : Int) ∧ 0 ≤ (p2 : Int)) := hid (by omega)
                have HB3 : Hid ((k2 : Int) < (N2 : Int) ∧ 0 ≤ (k2 : Int)) := hid (by omega)
                clear hu hv hbb hkk2
                go_wp2_with fail
                refine region_vals2 [none, none, none, none, none, none, none, none, none, none, none, none, none, none, none, none, none, none, none, none, none, none, none, none, none, none, none, none, none, none, none, none, none, none, none, some 0, some 1, some 2, some 3, some 4, some 5, some 6, some 7, some 8, some 9, none, none, none, none, none, none, none, none, none, none, none, none, none, none, none, none] [[(4, none)], [(5, none)], [(35, some 0), (36, some 1)], [(37, some 2)], [(4, none)], [(5, none)], [(40, some 5)], [(39, some 4), (41, some 6)], [(42, some 7)], [(38, some 3), (43, some 8)]] [some 35, some 36, some 37, some 38, some 39, some 40, some 41, some 42, some 43, some 44] [.slice (some ⟨g, o2, none⟩) N2 cap2, .int .i64 (k2 : Int), .pointer (some ⟨g, o2 + k2 * 16, none⟩), markV u, .slice (some ⟨g, o2, none⟩) N2 cap2, .int .i64 (k2 : Int), .int .i64 (p2 : Int), .pointer (some ⟨g, o2 + p2 * 16, none⟩), markV v, .bool (!bb)] (fun w' => Hid (Kp Nb wr w')) (by kernel_rfl) (by kernel_rfl) (by kernel_rfl) ?hS (VFrom.all (n := 10) (by kernel_rfl) ?hstep) ?hend
                case hstep =>
                  refine VFrom.cons (VStep.val _ rfl _ rfl (.slice (some ⟨g, o2, none⟩) N2 cap2) rfl trivial (fun ev wq hS he hr => ?_)) ?_
                  · have r0 : ev (.tmp 4) = .slice (some ⟨g, o2, none⟩) N2 cap2 := hr (4, none) (by simp); have hk := he.1; clear hr he
                    go_simp
                  refine VFrom.cons (VStep.val _ rfl _ rfl (.int .i64 (k2 : Int)) rfl trivial (fun ev wq hS he hr => ?_)) ?_
                  · have r0 : ev (.tmp 5) = .int .i64 (k2 : Int) := hr (5, none) (by simp); have hk := he.1; clear hr he
                    go_simp
                  refine VFrom.cons (VStep.val _ rfl _ rfl (.pointer (some ⟨g, o2 + k2 * 16, none⟩)) rfl trivial (fun ev wq hS he hr => ?_)) ?_
                  · have r0 : ev (.tmp 35) = .slice (some ⟨g, o2, none⟩) N2 cap2 := hr (35, some 0) (by simp); have r1 : ev (.tmp 36) = .int .i64 (k2 : Int) := hr (36, some 1) (by simp); have hk := he.1; clear hr he
                    have e1 := HB3.out
                    go_simp
                  refine VFrom.cons (VStep.val _ rfl _ rfl (markV u) rfl trivial (fun ev wq hS he hr => ?_)) ?_
                  · have r0 : ev (.tmp 37) = .pointer (some ⟨g, o2 + k2 * 16, none⟩) := hr (37, some 2) (by simp); have hk := he.1; clear hr he
                    exact exec_loadM rfl r0 (load_mark HLU.out.1 (range_kept HLU.out.2 hS.out))
                  refine VFrom.cons (VStep.val _ rfl _ rfl (.slice (some ⟨g, o2, none⟩) N2 cap2) rfl trivial (fun ev wq hS he hr => ?_)) ?_
                  · have r0 : ev (.tmp 4) = .slice (some ⟨g, o2, none⟩) N2 cap2 := hr (4, none) (by simp); have hk := he.1; clear hr he
                    go_simp
                  refine VFrom.cons (VStep.val _ rfl _ rfl (.int .i64 (k2 : Int)) rfl trivial (fun ev wq hS he hr => ?_)) ?_
                  · have r0 : ev (.tmp 5) = .int .i64 (k2 : Int) := hr (5, none) (by simp); have hk := he.1; clear hr he
                    go_simp
                  refine VFrom.cons (VStep.val _ rfl _ rfl (.int .i64 (p2 : Int)) rfl trivial (fun ev wq hS he hr => ?_)) ?_
                  · have r0 : ev (.tmp 40) = .int .i64 (k2 : Int) := hr (40, some 5) (by simp); have hk := he.1; clear hr he
                    have e1 := HK2.out
                    go_simp
                  refine VFrom.cons (VStep.val _ rfl _ rfl (.pointer (some ⟨g, o2 + p2 * 16, none⟩)) rfl trivial (fun ev wq hS he hr => ?_)) ?_
                  · have r0 : ev (.tmp 39) = .slice (some ⟨g, o2, none⟩) N2 cap2 := hr (39, some 4) (by simp); have r1 : ev (.tmp 41) = .int .i64 (p2 : Int) := hr (41, some 6) (by simp); have hk := he.1; clear hr he
                    have e1 := HB2.out
                    go_simp
                  refine VFrom.cons (VStep.val _ rfl _ rfl (markV v) rfl trivial (fun ev wq hS he hr => ?_)) ?_
                  · have r0 : ev (.tmp 42) = .pointer (some ⟨g, o2 + p2 * 16, none⟩) := hr (42, some 7) (by simp); have hk := he.1; clear hr he
                    exact exec_loadM rfl r0 (load_mark HLV.out.1 (range_kept HLV.out.2 hS.out))
                  refine VFrom.cons (VStep.val _ rfl _ rfl (.bool (!bb)) rfl trivial (fun ev wq hS he hr => ?_)) ?_
                  · have r0 : ev (.tmp 38) = markV u := hr (38, some 3) (by simp); have r1 : ev (.tmp 43) = markV v := hr (43, some 8) (by simp); have hk := he.1; clear hr he
                    exact exec_neqM rfl r0 r1 HLU.out.1 HLV.out.1 HBB2.out
                  exact VFrom.nil
                case hS => exact hid (Kp.refl Nb wr).drew
                case hend =>
                  intro wz hz
                  have KZ := hid hz.out
                  have HDZ : Hid (HoldsK encM 16 wz g off dk) := hid (by
                    have hb := KZ.out.heap (show g < wr.heap.size from Nat.lt_of_lt_of_le HG.out HKJ.out.size) (fun h => h)
                    intro j hj
                    have h1 := HD.out j hj
                    refine ⟨(World.cell?_of_block hb).trans h1.1, ?_⟩
                    have h2 := h1.2
                    unfold World.frozen? at h2 ⊢
                    rw [show wz.heap[(⟨g, off + j, none⟩ : Addr).block]? = wr.heap[(⟨g, off + j, none⟩ : Addr).block]? from hb]
                    exact h2)
                  have KJZ : Hid (Kp (Jb g) w wz) := hid (HKJ.out.trans KZ.out (fun _ _ h => h.elim))
                  clear hz
                  simp only [putAll, List.zip_cons_cons, List.zip_nil_right, List.foldl_cons, List.foldl_nil, Act.put, List.setIfInBounds_toArray, List.set_cons_zero, List.set_cons_succ]
                  cases bb with
                  | true =>
                    have HEQ2 := hid (of_decide_eq_true HBB2.out)
                    go_wp2
                    go_roundw
                    case rel =>
                      refine ⟨kk, k2 + 1, dk, rfl, by go_num, by omega, by have := HM.out; omega, by omega, HDZ, hid ?_, KJZ⟩
                      exact HI.out.skip (keeps_neg (by omega) (Subtype.ext (by rw [HUV.out.1, HUV.out.2]; exact HEQ2.out)))
                    case measure => have := HM.out; simp [intOf]; omega
                  | false =>
                    have HNE2 := hid (of_decide_eq_false HBB2.out)
                    have HL2 := hid (load_mark HLU.out.1 (range_kept HLU.out.2 KZ.out))
                    obtain ⟨W', hW'⟩ : ∃ W', W' = wz.setCells g (off + kk * 16) (markL u) := ⟨_, rfl⟩
                    have ST : Hid ((Instr.storeAt 24 (.pointer (some ⟨g, off + kk * 16, none⟩)) (markV u)).run Try.prog wz = .ok () W') := hid (by
                      rw [hW']
                      exact run_storeAt_mid wz g (off + kk * 16) 24 (markL u).toArray (by rw [List.size_toArray, markL_length, HLU.out.1.len]; exact holds_there HDZ.out (by rw [HDS.out]; omega)) (mark_sized HLU.out.1) (all_oneCell_toArray (markL_one u)))
                    have HDW : Hid (HoldsK encM 16 W' g off (dk.setIfInBounds kk d[k + k2]!)) := hid (by
                      rw [hW', ← HUV.out.1]
                      exact holdsK_set HDZ.out (by rw [HDS.out]; omega) _)
                    have KJW : Hid (Kp (Jb g) w W') := hid (by rw [hW']; exact Kp.setCells (S := Jb g) (fun _ => rfl) _ _ _ KJZ.out)
                    have hkN : kk < N := by omega
                    clear hW'
                    go_wp2_with (first
                      | (refine wpList_val (by rfl) _ _ (exec_loadM (a := ⟨g, o2 + k2 * 16, none⟩) rfl (by rfl) HL2.out) ?_)
                      | (refine wpList_storeM rfl 24 (.tmp 51) (.tmp 50) rfl (p := ⟨g, off + kk * 16, none⟩) (by rfl) (v := markV u) (by rfl) ST.out ?_))
                    go_roundw
                    case rel =>
                      refine ⟨kk + 1, k2 + 1, dk.setIfInBounds kk d[k + k2]!, by go_num, by go_num, by omega, by have := HM.out; omega, by omega, HDW, hid ?_, KJW⟩
                      exact HI.out.keep (by rw [HN.out]; exact HM.out) (keeps_pos (fun e => HNE2.out (by rw [← HUV.out.1, ← HUV.out.2, e])))
                    case measure => have := HM.out; simp [intOf]; omega
              · have hend : k + k2 = N := by have := HN2.out; omega
                have hkN : kk < N := by omega
                obtain ⟨W', c1, c2, c3⟩ := clear_run (cap := cap - kk) HD.out HDS.out hkN
                have C1 := hid c1
                have HRES : Hid ((compactUpTo d N).length = kk ∧ (∀ i m, (compactUpTo d N)[i]? = some m → W'.rangeAt g (off + i * 16) (markL m.1)) ∧ Kp (Jb g) w W') := hid (by
                  have hI := HI.out
                  rw [hend] at hI
                  refine ⟨hI.len, fun i m hm => ?_, HKJ.out.trans c2 (fun _ _ h => h)⟩
                  have hik : i < kk := by rw [← hI.len]; exact (List.getElem?_eq_some_iff.1 hm).1
                  have e := hI.low i hik
                  rw [hm] at e
                  injection e with e
                  rw [e]
                  exact c3 i hik)
                have hsl1 := sliceM_from g off N cap kk hkN hcap
                have hsl2 := sliceM_to g off N cap kk (Nat.le_of_lt hkN) hcap
                clear c1 c2 c3
                go_wp2_with (refine wpList_val rfl _ _ (exec_clear rfl (by rfl) C1.out) ?_)
                go_ret
                exact ⟨by rw [HRES.out.1]; rfl, HRES.out.2.1, HRES.out.2.2⟩
      · have HE : Hid (k = N) := hid (by omega)
        obtain rfl : k = N := by omega
        go_wp2
        go_ret
        obtain ⟨e1, e2, e3⟩ := SAME.out _ HA.out HK.out
        exact ⟨by rw [e1]; rfl, fun i a b h => e2 i ⟨a, b⟩ h, e3⟩

end Go.Proofs.Ytijlmfmpfjjlpaa
