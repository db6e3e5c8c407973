/-
  Of earlier texts what is used here: Mark, U64, SipPlain, SipA, RefA, RefP .. No condition.
-/
import Derived.Test.YtijlmfmpfjjlpaaKp
import Derived.Test.YtijlmfmpfjjlpaaRow
import Derived.Test.YtijlmfmpfjjlpaaRowCut
import Derived.Test.YtijlmfmpfjjlpaaGhostR
import Derived.Test.YtijlmfmpfjjlpaaRowApp
import Derived.Test.YtijlmfmpfjjlpaaColl
import Derived.Test.YtijlmfmpfjjlpaaVars
import Derived.Test.YtijlmfmpfjjlpaaProg
import Derived.BigQuiet
import Derived.ChangeAlike
import Derived.ChangeKeysEq
import Derived.Deep.AppendLies
import Derived.Deep.DeepCutAuto
import Derived.Deep.QuietTactic
import Derived.Deep.RegionHeld3
import Derived.Deep.RegionLaw
import Derived.IntWalk
import Derived.Laws.BitsAllLaws
import Derived.Laws.IdiomStrings
import Derived.Lib.BitFns
import Derived.Lib.SlBytesConst
import Derived.Lib.SliceRun
import Derived.Lib.Tables
import Derived.Lib.Walk
import Derived.LoopIn
import Derived.LoopNIn
import Derived.Maps.AppendAt
import Derived.OwnWalk
import Derived.OwnWalkIn
import Derived.RangeFuncBound
import Derived.RangeFuncCalls
import Derived.RangeFuncLeaves
import Derived.RangeFuncNested
import Derived.RegionTactic
import Derived.Shelf.Abstract
import Derived.Shelf.RegionOpen
import Derived.StillTailTactics
import Derived.TacticsInMore
import Derived.WalkKit
import Derived.WalkLawsBesides
import Derived.WalkSpells
namespace Go.Proofs.Ytijlmfmpfjjlpaa
section
open Go.RowKit
theorem plain_u8 : Try.prog.plainKey 5 = true := by kernel_rfl
theorem cells_u8 : Try.prog.cellsOf 5 = 1 := by kernel_rfl
theorem under_u8 : Try.prog.underlying 5 = some (.int .u8) := by kernel_rfl
theorem under_mark : Try.prog.underlying 24 = some (.array 16 5) := by kernel_rfl
theorem info_u8 : ∃ i, Try.prog.info? 5 = some i := by
  have h : (Try.prog.info? 5).isSome = true := by kernel_rfl
  exact Option.isSome_iff_exists.1 h
def bytesVal (zs : List Int) : Value := .agg (zs.map (Value.int .u8)).toArray
theorem eqItems_bytes (d : Nat) (zs ys : List Int) (n : Nat) (hz : zs.length = n) (hy : ys.length = n) (w : World) : ∀ is : List Nat, (∀ i ∈ is, i < n) →
    (Op.eqItems (d + 1) 5 1 (zs.map (Value.int .u8)).toArray (ys.map (Value.int .u8)).toArray is).run Try.prog w = .ok (is.all fun i => zs[i]?.getD 0 == ys[i]?.getD 0) w
  | [], _ => by simp [Op.eqItems]
  | i :: is, h => by
    have hi : i < n := h i (by simp)
    have h1 : (zs.map (Value.int .u8)).toArray[i * 1]? = some (.int .u8 (zs[i]?.getD 0)) := by
      rw [Nat.mul_one]; simp [List.getElem?_eq_getElem (show i < zs.length by omega)]
    have h2 : (ys.map (Value.int .u8)).toArray[i * 1]? = some (.int .u8 (ys[i]?.getD 0)) := by
      rw [Nat.mul_one]; simp [List.getElem?_eq_getElem (show i < ys.length by omega)]
    have p1 := run_part_plain w plain_u8 h1
    have p2 := run_part_plain w plain_u8 h2
    have p3 := run_equalIn_int w d 5 .u8 .u8 (zs[i]?.getD 0) (ys[i]?.getD 0) under_u8
    have ih := eqItems_bytes d zs ys n hz hy w is (fun j hj => h j (by simp [hj]))
    simp only [Op.eqItems, Sem.run_bind, p1, p2, p3, Result.andThen_ok, List.all_cons]
    cases hb : (zs[i]?.getD 0 == ys[i]?.getD 0)
    · simp
    · simpa using ih
theorem all_range (zs ys : List Int) (n : Nat) (hz : zs.length = n) (hy : ys.length = n) : ((List.range n).all fun i => zs[i]?.getD 0 == ys[i]?.getD 0) = decide (zs = ys) := by
  by_cases e : zs = ys
  · subst e; simp
  · have : ¬ ((List.range n).all fun i => zs[i]?.getD 0 == ys[i]?.getD 0) = true := by
      intro h
      rw [List.all_eq_true] at h
      refine e (List.ext_getElem (by omega) fun i h1 h2 => ?_)
      have := h i (List.mem_range.2 (by omega))
      simpa [List.getElem?_eq_getElem h1, List.getElem?_eq_getElem h2] using this
    simp only [e, decide_false]
    simpa using this
end
section
open Go.RowKit
def ByAt (w : World) (blk off : Nat) (zs : List Int) : Prop := ∀ i, i < zs.length → w.cell? ⟨blk, off + i, none⟩ = some (.int .u8 (zs[i]?.getD 0))
def IsBytes (zs : List Int) : Prop := ∀ i : Nat, 0 ≤ zs[i]?.getD 0 ∧ zs[i]?.getD 0 < 256
theorem IsBytes.drop {zs : List Int} (h : IsBytes zs) (q : Nat) : IsBytes (zs.drop q) := by
  intro i; rw [List.getElem?_drop]; exact h (q + i)
theorem ByAt.drop {S : Nat → Prop} {w wr : World} {blk off n : Nat} {zs : List Int} (h : ByAt w blk off zs) (hl : zs.length = n) (hk : Kp S w wr) (hne : ¬ S blk) (q : Nat) (hq : q ≤ n) : ByAt wr blk (off + q) (zs.drop q) := by
  intro i hi
  rw [List.length_drop] at hi
  rw [List.getElem?_drop, Nat.add_assoc]
  exact hk.cell (h (q + i) (by omega)) hne
end
section
open Go.RowKit
theorem IsBytes.tail {x : Int} {r : List Int} (h : IsBytes (x :: r)) : IsBytes r := fun i => h (i + 1)
theorem IsBytes.head {x : Int} {r : List Int} (h : IsBytes (x :: r)) : 0 ≤ x ∧ x < 256 := h 0
theorem IsBytes.take {zs : List Int} (h : IsBytes zs) (k : Nat) : IsBytes (zs.take k) := by
  intro i
  rw [List.getElem?_take]
  split
  · exact h i
  · simp
end
section
open Go.RowKit
/-- A slice of bytes as a value: nil, or its cells in a block that S doesn't hold of. -/
def BySl (S : Nat → Prop) (w : World) (v : Value) (zs : List Int) : Prop :=
  IsBytes zs ∧ (((∃ a cap, v = .slice a 0 cap) ∧ zs = []) ∨ ∃ blk off cap, v = .slice (some ⟨blk, off, none⟩) zs.length cap ∧ zs.length ≤ cap ∧ cap ≤ maxLen ∧ ByAt w blk off zs ∧ (0 < zs.length → ¬ S blk))
theorem BySl.kept {S S' : Nat → Prop} {w w' : World} {v : Value} {zs : List Int} (h : BySl S w v zs) (k : Kp S' w w') (hs : ∀ i, S' i → S i) : BySl S w' v zs := by
  obtain ⟨hz, h⟩ := h
  refine ⟨hz, ?_⟩
  rcases h with h | ⟨blk, off, cap, hv, hc, hm, hb, hn⟩
  · exact .inl h
  · exact .inr ⟨blk, off, cap, hv, hc, hm, fun i hi => k.cell (hb i hi) (fun h' => hn (by omega) (hs _ h')), hn⟩
theorem BySl.mono {S S' : Nat → Prop} {w : World} {v : Value} {zs : List Int} (h : BySl S w v zs) (hs : ∀ i, S' i → S i) : BySl S' w v zs := by
  obtain ⟨hz, h⟩ := h
  refine ⟨hz, ?_⟩
  rcases h with h | ⟨blk, off, cap, hv, hc, hm, hb, hn⟩
  · exact .inl h
  · exact .inr ⟨blk, off, cap, hv, hc, hm, hb, fun h1 h2 => hn h1 (hs _ h2)⟩
end
section
open Go.RowKit
theorem IsBytes.of {zs : List Int} (h : ∀ z ∈ zs, 0 ≤ z ∧ z < 256) : IsBytes zs := by
  intro i
  by_cases hi : i < zs.length
  · rw [List.getElem?_eq_getElem hi]; exact h _ (List.getElem_mem hi)
  · rw [List.getElem?_eq_none (by omega)]; exact ⟨by decide, by decide⟩
end
section
open Go.RowKit
def st (zs : List Int) : ByteArray := ⟨(zs.map fun z => UInt8.ofNat z.toNat).toArray⟩
theorem conv_any {w : World} {v : Value} {zs : List Int} {S : Nat → Prop} (h : BySl S w v zs) : (convert 45 9 v).run Try.prog w = .ok (.string (st zs)) w := by
  obtain ⟨hz, ⟨⟨a, cap, rfl⟩, rfl⟩ | ⟨blk, off, cap, rfl, hc, hm, hb, _⟩⟩ := h
  · cases a with
    | none =>
      rw [run_convert_bytes_string w 45 9 5 none 0 cap Try.underlying45 Try.underlying5 Try.underlying9]
      simp [Conv.bytesToString, go_sem, st]
      rfl
    | some a => exact run_convert_bytes_back (P := Try.prog) w 45 9 5 a cap [] Try.underlying45 Try.underlying5 Try.underlying9 (fun j hj => by simp at hj)
  · have := run_convert_bytes_back (P := Try.prog) w 45 9 5 ⟨blk, off, none⟩ cap (zs.map fun z => UInt8.ofNat z.toNat) Try.underlying45 Try.underlying5 Try.underlying9 (fun j hj => by
      have hj' : j < zs.length := by simpa using hj
      have e := hb j hj'
      have r := hz j
      rw [List.getElem?_eq_getElem hj'] at e r
      simp only [Option.getD_some] at e r
      have ea : Addr.add ⟨blk, off, none⟩ j = ⟨blk, off + j, none⟩ := by unfold Addr.add; split <;> simp_all
      rw [ea, e]
      congr 2
      simp only [List.getElem_map, UInt8.toNat_ofNat']
      omega)
    rw [List.length_map] at this
    exact this
end
section
open Go.RowKit
def markL (m : List Int) : List Value := m.map (Value.int .u8)
theorem markL_length (m : List Int) : (markL m).length = m.length := by unfold markL; rw [List.length_map]
theorem markL_one (m : List Int) : ∀ v ∈ markL m, v.oneCell' = true := fun v hv => by
  obtain ⟨x, _, rfl⟩ := List.mem_map.1 hv
  rfl
theorem markL_get (m : List Int) (i : Nat) (h : i < m.length) : (markL m)[i]? = some (.int .u8 (m[i]?.getD 0)) := by
  unfold markL
  rw [List.getElem?_map, List.getElem?_eq_getElem h]
  rfl
theorem mark_info : (Try.prog.info? 24).map (·.size) = some 16 := by kernel_rfl
theorem mark_infoL (m : List Int) (h : m.length = 16) : (Try.prog.info? 24).map (·.size) = some (markL m).length := by rw [markL_length, h]; exact mark_info
abbrev markV (m : List Int) : Value := .agg (markL m).toArray
theorem range_of {w : World} {B : Nat} {t : TypeId} {vs : List Value} (h : Blk w B t vs) : w.rangeAt B 0 vs := h.range 0 vs (fun j _ => by rw [Nat.zero_add])
end
section
open Go.RowKit
structure MarkOk (m : List Int) : Prop where
  len : m.length = 16
  bytes : IsBytes m
theorem by_mark {w : World} {B t : Nat} {m : List Int} (h : Blk w B t (markL m)) (hm : MarkOk m) : BySl Nb w (.slice (some ⟨B, 0, none⟩) 16 16) m := by
  refine ⟨hm.bytes, .inr ⟨B, 0, 16, by rw [hm.len], by rw [hm.len]; exact Nat.le_refl _, by decide, fun i hi => ?_, fun _ h => h⟩⟩
  rw [Nat.zero_add]
  exact (h.cell i).trans (markL_get m i hi)
end
section
open Go.RowKit
theorem sixteen (m : List Int) (h : m.length = 16) : ∃ m0 m1 m2 m3 m4 m5 m6 m7 m8 m9 m10 m11 m12 m13 m14 m15, m = [m0, m1, m2, m3, m4, m5, m6, m7, m8, m9, m10, m11, m12, m13, m14, m15] := by
  match m, h with
  | [m0, m1, m2, m3, m4, m5, m6, m7, m8, m9, m10, m11, m12, m13, m14, m15], _ => exact ⟨m0, m1, m2, m3, m4, m5, m6, m7, m8, m9, m10, m11, m12, m13, m14, m15, rfl⟩
end
section
open Go.RowKit
theorem range_kept {w w' : World} {B o : Nat} {vs : List Value} (h : w.rangeAt B o vs) (k : Kp Nb w w') : w'.rangeAt B o vs := fun j v hv => k.cell (h j v hv) (fun h => h)
end
section
open Go.RowKit
theorem isBytes_of {zs : List Int} (h : zs.all (fun z => decide (0 ≤ z ∧ z < 256)) = true) : IsBytes zs := IsBytes.of fun z hz => of_decide_eq_true (List.all_eq_true.1 h z hz)
theorem exec_buildSlice {P : Program} {ev : Operand → Value} {o : Oper} {T : TypeId} {n : Nat} {ps : Array (Nat × Operand)} {qs : Array (Nat × Value)} {v : Value} {w w' : World} (ho : o.op = .buildSlice T n ps) (hq : (ps.map fun (i, x) => (i, ev x)) = qs) (hl : (Instr.buildSlice T n qs).run P w = .ok v w') : (execOp ev o).run P w = .ok (.value v) w' := by
  unfold execOp
  simp only [ho, hq, Sem.run_bind, Sem.run_pure, Result.andThen_ok, hl]
end
section
open Go.RowKit
theorem zero_ok : MarkOk (List.replicate 16 0) := ⟨rfl, isBytes_of (by decide)⟩
end
section
open Go.RowKit
/-- A slice of marks. -/
def markAt (ms : List (List Int)) (i : Nat) : List Int := ms[i]?.getD (List.replicate 16 0)
def MkSl (w : World) (v : Value) (ms : List (List Int)) : Prop :=
  (∀ i, MarkOk (markAt ms i)) ∧ (((∃ a cap, v = .slice a 0 cap) ∧ ms = []) ∨ ∃ blk off cap, v = .slice (some ⟨blk, off, none⟩) ms.length cap ∧ ms.length ≤ cap ∧ cap ≤ maxLen ∧
    ∀ i, i < ms.length → w.rangeAt blk (off + i * 16) (markL (markAt ms i)))
theorem MkSl.kept {w w' : World} {v : Value} {ms : List (List Int)} (h : MkSl w v ms) (k : Kp Nb w w') : MkSl w' v ms := by
  refine ⟨h.1, ?_⟩
  rcases h.2 with h | ⟨blk, off, cap, rfl, hc, hm, hr⟩
  · exact .inl h
  · exact .inr ⟨blk, off, cap, rfl, hc, hm, fun i hi => range_kept (hr i hi) k⟩
theorem MkSl.shape {w : World} {v : Value} {ms : List (List Int)} (h : MkSl w v ms) : ∃ y d, v = .slice y ms.length d := by
  rcases h.2 with ⟨⟨a, c, rfl⟩, rfl⟩ | ⟨blk, off, cap, rfl, _⟩
  · exact ⟨a, c, rfl⟩
  · exact ⟨_, _, rfl⟩
theorem load_mark {w : World} {B o : Nat} {m : List Int} (hm : MarkOk m) (h : w.rangeAt B o (markL m)) : (Instr.loadAt 24 (.pointer (some ⟨B, o, none⟩))).run Try.prog w = .ok (markV m) w :=
  run_loadAt_mid w B o 24 (markL m) _ h under_mark rfl (mark_infoL m hm.len)
theorem run_mark_eqD (d : Nat) (zs ys : List Int) (hz : zs.length = 16) (hy : ys.length = 16) (w : World) :
    (Op.equalIn (d + 2) 24 (bytesVal zs) (bytesVal ys)).run Try.prog w = .ok (decide (zs = ys)) w := by
  obtain ⟨i, hi⟩ := info_u8
  unfold bytesVal
  rw [run_equalIn_array w (d + 1) _ _ under_mark hi, cells_u8, eqItems_bytes d zs ys 16 hz hy w _ (fun i h => List.mem_range.1 h), all_range zs ys 16 hz hy]
theorem mark_there {w : World} {B : Nat} {zs : List Value} {m : List Int} (h : Blk w B 24 zs) (hl : zs.length = 16) (hm : MarkOk m) : w.there B 0 (markL m).toArray.size := by
  rw [List.size_toArray, markL_length, hm.len]; exact h.there 0 16 (by omega)
theorem mark_sized {m : List Int} (hm : MarkOk m) : (Try.prog.info? 24).map (·.size) = some (markL m).toArray.size := by rw [List.size_toArray, markL_length, hm.len]; exact mark_info
end
section
open Go.RowKit
/-- Which list of bytes stands ahead. -/
def lexI : List Int → List Int → Bool
  | _, [] => false
  | [], _ :: _ => true
  | a :: x, b :: y => decide (a < b) || (a == b && lexI x y)
theorem st_list (xs : List Int) : (st xs).toList = xs.map fun z => UInt8.ofNat z.toNat := ByteArray.toList_mk _
theorem byte_lt (a b : Int) (ha : 0 ≤ a ∧ a < 256) (hb : 0 ≤ b ∧ b < 256) : (UInt8.ofNat a.toNat < UInt8.ofNat b.toNat) ↔ a < b := by
  rw [UInt8.lt_iff_toNat_lt, UInt8.toNat_ofNat', UInt8.toNat_ofNat']
  omega
theorem byte_eq (a b : Int) (ha : 0 ≤ a ∧ a < 256) (hb : 0 ≤ b ∧ b < 256) : (UInt8.ofNat a.toNat = UInt8.ofNat b.toNat) ↔ a = b := by
  rw [← UInt8.toNat_inj, UInt8.toNat_ofNat', UInt8.toNat_ofNat']
  omega
theorem lex_st : ∀ (xs ys : List Int), IsBytes xs → IsBytes ys → Op.bytesLess (xs.map fun z => UInt8.ofNat z.toNat) (ys.map fun z => UInt8.ofNat z.toNat) = lexI xs ys
  | [], [], _, _ => rfl
  | [], _ :: _, _, _ => rfl
  | _ :: _, [], _, _ => rfl
  | a :: x, b :: y, hx, hy => by
    have ih := lex_st x y hx.tail hy.tail
    have e1 := byte_lt a b hx.head hy.head
    have e2 := byte_eq a b hx.head hy.head
    show (decide (UInt8.ofNat a.toNat < UInt8.ofNat b.toNat) || (UInt8.ofNat a.toNat == UInt8.ofNat b.toNat && Op.bytesLess _ _)) = (decide (a < b) || (a == b && lexI x y))
    rw [ih, decide_eq_decide.2 e1]
    congr 2
    rw [Bool.eq_iff_iff, beq_iff_eq, beq_iff_eq]
    exact e2
theorem st_lt (xs ys : List Int) (hx : IsBytes xs) (hy : IsBytes ys) : Op.bytesLess (st xs).toList (st ys).toList = lexI xs ys := by rw [st_list, st_list]; exact lex_st xs ys hx hy
theorem lexI_trans : ∀ (x y z : List Int), lexI x y = true → lexI y z = true → lexI x z = true
  | _, [], _, h, _ => by cases ‹List Int› <;> simp [lexI] at h
  | [], _ :: _, [], _, h => by simp [lexI] at h
  | [], _ :: _, _ :: _, _, _ => rfl
  | _ :: _, _ :: _, [], _, h => by simp [lexI] at h
  | a :: x, b :: y, c :: z, h1, h2 => by
    simp only [lexI, Bool.or_eq_true, decide_eq_true_eq, Bool.and_eq_true, beq_iff_eq] at h1 h2 ⊢
    rcases h1 with h1 | ⟨rfl, h1⟩
    · rcases h2 with h2 | ⟨rfl, h2⟩
      · exact .inl (by omega)
      · exact .inl h1
    · rcases h2 with h2 | ⟨rfl, h2⟩
      · exact .inl h2
      · exact .inr ⟨rfl, lexI_trans x y z h1 h2⟩
theorem lexI_tri : ∀ (x y : List Int), lexI x y = false → lexI y x = false → x = y
  | [], [], _, _ => rfl
  | [], _ :: _, h, _ => by simp [lexI] at h
  | _ :: _, [], _, h => by simp [lexI] at h
  | a :: x, b :: y, h1, h2 => by
    simp only [lexI, Bool.or_eq_false_iff, decide_eq_false_iff_not, Bool.and_eq_false_iff, beq_eq_false_iff_ne] at h1 h2
    have e : a = b := by omega
    subst e
    rw [lexI_tri x y (h1.2.resolve_left fun h => h rfl) (h2.2.resolve_left fun h => h rfl)]
end
section
open Go.RowKit
theorem eq_marks (zs ys : List Int) (hz : zs.length = 16) (hy : ys.length = 16) (w : World) : Sem.run Try.prog (Op.equalIn 10000 24 (markV zs) (markV ys)) w = .ok (decide (zs = ys)) w := run_mark_eqD 9998 zs ys hz hy w
theorem exec_eqMark {ev : Operand → Value} {o : Oper} {x y : Operand} {t' : TypeId} {xs ys : Array Value} {b : Bool} {w : World} (ho : o.op = .binOp .eql 24 x y t') (hx : ev x = .agg xs) (hy : ev y = .agg ys)
    (h : Sem.run Try.prog (Op.equal 24 (.agg xs) (.agg ys)) w = .ok b w) : (execOp ev o).run Try.prog w = .ok (.value (.bool b)) w := by
  have h1 : Sem.run Try.prog (eqGuard .eql 24 x y (.agg xs) (.agg ys)) w = .ok () w := by go_simp
  have h2 : Sem.run Try.prog (binOp .eql 24 (.agg xs) (.agg ys)) w = .ok (.bool b) w := by
    show Sem.run Try.prog (do pure (Value.bool (← Op.equal 24 (.agg xs) (.agg ys)))) w = _
    simp only [Sem.run_bind, Sem.run_pure, Result.andThen_ok, h]
  unfold execOp
  simp only [ho, hx, hy, Sem.run_bind, Sem.run_pure, Result.andThen_ok, h1, h2]
set_option maxRecDepth 100000 in
set_option maxHeartbeats 1000000 in
theorem rless_any (a b : List Int) (w : World) (ha : MarkOk a) (hb : MarkOk b) :
    Calls Try.prog 10 #[markV a, markV b] w fun e w' => e = .returned (.bool (lexI a b)) ∧ Kp Nb w w' := by
  obtain ⟨W, hW⟩ : ∃ W, W = (w.alloc (.cells (markL a).toArray 24)).alloc (.cells (markL b).toArray 24) := ⟨_, rfl⟩
  obtain ⟨N, hN⟩ : ∃ N, N = w.heap.size := ⟨_, rfl⟩
  have H3 : Blk W N 24 (markL a) := by rw [hW, hN]; exact (Blk.new w _ _).alloc _
  have H4 : Blk W (N + 1) 24 (markL b) := by
    have h := Blk.new (w.alloc (.cells (markL a).toArray 24)) 24 (markL b)
    simp only [World.size_alloc] at h
    rw [hW, hN]
    exact h
  have KW : Hid (Kp Nb w W) := hid (by rw [hW]; exact ((Kp.refl Nb w).alloc _).alloc _)
  have HY : Hid (BySl Nb W (.slice (some ⟨N, 0, none⟩) 16 16) a) := hid (by_mark H3 ha)
  have HZ : Hid (BySl Nb W (.slice (some ⟨N + 1, 0, none⟩) 16 16) b) := hid (by_mark H4 hb)
  have hl := st_lt a b ha.bytes hb.bytes
  obtain ⟨d, hd⟩ : ∃ d, lexI a b = d := ⟨_, rfl⟩
  rw [hd] at hl ⊢
  obtain ⟨sa, hsa⟩ : ∃ s, st a = s := ⟨_, rfl⟩
  obtain ⟨sb, hsb⟩ : ∃ s, st b = s := ⟨_, rfl⟩
  rw [hsa, hsb] at hl
  have HL := hid hl
  have CA : Hid (∀ wx, Kp Nb W wx → (convert 45 9 (.slice (some ⟨N, 0, none⟩) 16 16)).run Try.prog wx = .ok (.string sa) wx) := hid (fun wx k => by rw [← hsa]; exact conv_any (HY.out.kept k (fun _ h => h)))
  have CB : Hid (∀ wx, Kp Nb W wx → (convert 45 9 (.slice (some ⟨N + 1, 0, none⟩) 16 16)).run Try.prog wx = .ok (.string sb) wx) := hid (fun wx k => by rw [← hsb]; exact conv_any (HZ.out.kept k (fun _ h => h)))
  clear hl hd hsa hsb H3 H4 HY HZ ha hb
  go_enter Try.func10, Try.ntmps10
  go_upto_region 1 with fail
  rw [show (w.alloc (.cells (markL a).toArray 24)).alloc (.cells (markL b).toArray 24) = W from hW.symm, ← hN]
  clear hW hN
  refine region_vals2 [none, none, none, none, some 5, some 0, some 1, some 2, some 3, some 4] [[(2, none)], [(5, some 0)], [(3, none)], [(7, some 2)], [(6, some 1), (8, some 3)], [(9, some 4)]] [some 5, some 6, some 7, some 8, some 9, some 4] [.slice (some ⟨N, 0, none⟩) 16 16, .string sa, .slice (some ⟨N + 1, 0, none⟩) 16 16, .string sb, .bool d, .bool d] (fun w' => Hid (Kp Nb W w')) (by kernel_rfl) (by kernel_rfl) (by kernel_rfl) ?hS (VFrom.all (n := 6) (by kernel_rfl) ?hstep) ?hend
  case hstep =>
    refine VFrom.cons (VStep.val _ rfl _ rfl (.slice (some ⟨N, 0, none⟩) 16 16) rfl trivial (fun ev wq hS he hr => ?_)) ?_
    · have r0 : ev (.tmp 2) = .pointer (some ⟨N, 0, none⟩) := hr (2, none) (by simp); have hk := he.1; clear hr he
      go_simp
    refine VFrom.cons (VStep.val _ rfl _ rfl (.string sa) rfl trivial (fun ev wq hS he hr => ?_)) ?_
    · have r0 : ev (.tmp 5) = .slice (some ⟨N, 0, none⟩) 16 16 := hr (5, some 0) (by simp); have hk := he.1; clear hr he
      have e1 := CA.out wq hS.out
      go_simp
    refine VFrom.cons (VStep.val _ rfl _ rfl (.slice (some ⟨N + 1, 0, none⟩) 16 16) rfl trivial (fun ev wq hS he hr => ?_)) ?_
    · have r0 : ev (.tmp 3) = .pointer (some ⟨(N + 1), 0, none⟩) := hr (3, none) (by simp); have hk := he.1; clear hr he
      go_simp
    refine VFrom.cons (VStep.val _ rfl _ rfl (.string sb) rfl trivial (fun ev wq hS he hr => ?_)) ?_
    · have r0 : ev (.tmp 7) = .slice (some ⟨N + 1, 0, none⟩) 16 16 := hr (7, some 2) (by simp); have hk := he.1; clear hr he
      have e1 := CB.out wq hS.out
      go_simp
    refine VFrom.cons (VStep.val _ rfl _ rfl (.bool d) rfl trivial (fun ev wq hS he hr => ?_)) ?_
    · have r0 : ev (.tmp 6) = .string sa := hr (6, some 1) (by simp); have r1 : ev (.tmp 8) = .string sb := hr (8, some 3) (by simp); have hk := he.1; clear hr he
      have e1 := HL.out
      go_simp
    refine VFrom.cons (VStep.val _ rfl _ rfl (.bool d) rfl trivial (fun ev wq hS he hr => ?_)) ?_
    · have r0 : ev (.tmp 9) = .bool d := hr (9, some 4) (by simp); have hk := he.1; clear hr he
      go_simp
    exact VFrom.nil
  case hS => exact hid ((Kp.refl Nb W).drew)
  case hend =>
    intro w5 h5
    have K5 := hid (KW.out.trans h5.out (fun _ _ h => h))
    clear h5
    simp only [putAll, List.zip_cons_cons, List.zip_nil_right, List.foldl_cons, List.foldl_nil, Act.put, List.setIfInBounds_toArray, List.set_cons_zero, List.set_cons_succ]
    go_wp2
    go_ret
    exact ⟨rfl, K5.out⟩
end
section
open Go.RowKit
/-- Rising, each once. -/
def Rise (ms : List (List Int)) : Prop := ∀ i j, i < j → j < ms.length → lexI (markAt ms i) (markAt ms j) = true
def rightB (ms : List (List Int)) : Bool := (List.range (ms.length - 1)).all fun j => lexI (markAt ms j) (markAt ms (j + 1))
theorem rightB_of {ms : List (List Int)} (h : ∀ j, j + 1 < ms.length → lexI (markAt ms j) (markAt ms (j + 1)) = true) : rightB ms = true := by
  unfold rightB
  rw [List.all_eq_true]
  intro j hj
  exact h j (by have := List.mem_range.1 hj; omega)
theorem rightB_at {ms : List (List Int)} (h : rightB ms = true) (j : Nat) (hj : j + 1 < ms.length) : lexI (markAt ms j) (markAt ms (j + 1)) = true := by
  unfold rightB at h
  rw [List.all_eq_true] at h
  exact h j (List.mem_range.2 (by omega))
theorem rise_of {ms : List (List Int)} (h : rightB ms = true) : Rise ms := by
  intro i j hij
  obtain ⟨d, rfl⟩ : ∃ d, j = i + 1 + d := ⟨j - i - 1, by omega⟩
  clear hij
  induction d with
  | zero => exact fun hj => rightB_at h i hj
  | succ d ih => exact fun hj => lexI_trans _ _ _ (ih (by omega)) (rightB_at h (i + 1 + d) hj)
theorem right_rise {ms : List (List Int)} (h : Rise ms) : rightB ms = true := rightB_of fun j hj => h j (j + 1) (by omega) hj
theorem rightB_false {ms : List (List Int)} (j : Nat) (hj : j + 1 < ms.length) (h : lexI (markAt ms j) (markAt ms (j + 1)) = false) : rightB ms = false := by
  cases e : rightB ms with
  | false => rfl
  | true => rw [rightB_at e j hj] at h; cases h
theorem markAt_mem {ms : List (List Int)} {i : Nat} (h : i < ms.length) : markAt ms i ∈ ms := by
  unfold markAt
  rw [List.getElem?_eq_getElem h]
  exact List.getElem_mem h
theorem mem_markAt {ms : List (List Int)} {m : List Int} (h : m ∈ ms) : ∃ i, i < ms.length ∧ markAt ms i = m := by
  obtain ⟨i, hi, rfl⟩ := List.mem_iff_getElem.1 h
  exact ⟨i, hi, by unfold markAt; rw [List.getElem?_eq_getElem hi]; rfl⟩
theorem MkSl.ok {w : World} {v : Value} {ms : List (List Int)} (h : MkSl w v ms) : ∀ m ∈ ms, MarkOk m := fun m hm => by
  obtain ⟨i, _, rfl⟩ := mem_markAt hm
  exact h.1 i
def mhasB (ms : List (List Int)) (m : List Int) : Bool := decide (m ∈ ms)
def HasR (w : World) (B : Nat) (ms : List (List Int)) (m : List Int) (i : Value) (wr : World) : Prop := ∃ k : Nat, k ≤ ms.length ∧ i = .int .i64 k ∧ Hid (∀ j, j < k → markAt ms j ≠ m) ∧ Hid (Blk wr B 24 (markL m)) ∧ Hid (Kp Nb w wr)
set_option maxRecDepth 100000 in
set_option maxHeartbeats 2000000 in
theorem rhas_any (v : Value) (ms : List (List Int)) (m : List Int) (w : World) (hs : MkSl w v ms) (hm : MarkOk m) :
    Calls Try.prog 17 #[v, markV m] w fun e w' => e = .returned (.bool (mhasB ms m)) ∧ Kp Nb w w' := by
  obtain ⟨y, d, rfl⟩ := hs.shape
  obtain ⟨N, hN⟩ : ∃ N, N = w.heap.size := ⟨_, rfl⟩
  obtain ⟨W, hW⟩ : ∃ W, W = w.alloc (.cells (markL m).toArray 24) := ⟨_, rfl⟩
  have H3 : Hid (Blk W N 24 (markL m)) := hid (by rw [hW, hN]; exact Blk.new w _ _)
  have KW : Hid (Kp Nb w W) := hid (by rw [hW]; exact (Kp.refl Nb w).alloc _)
  have HS := hid hs
  have HM := hid hm
  clear hs hm
  go_enter Try.func17, Try.ntmps17
  go_upto_region 2 with fail
  rw [show w.alloc (.cells (markL m).toArray 24) = W from hW.symm, ← hN]
  clear hW hN
  go_loopw [9] (HasR w N ms m) (fun i _ => ms.length - (intOf i).toNat)
  case atStart => exact ⟨0, by omega, rfl, hid (fun j hj => absurd hj (Nat.not_lt_zero _)), H3, KW⟩
  case round =>
    clear H3 KW
    obtain ⟨k, hk, rfl, HE, HB, HK⟩ := hrel
    by_cases hlt : k < ms.length
    · have hC := HS.out.kept HK.out
      rcases hC.2 with ⟨_, e0⟩ | ⟨blk, off, cap, e1, hc, hx, hcell⟩
      · rw [e0] at hlt
        exact absurd hlt (Nat.not_lt_zero _)
      · injection e1 with e1 _ e2
        subst e1 e2
        have HR := hid (hcell k hlt)
        have M1 := hid (hC.1 k)
        unfold maxLen at hx
        have HQ : Hid (markAt ms k = m → mhasB ms m = true) := hid (fun h => decide_eq_true (h ▸ markAt_mem hlt))
        have HP : Hid (markAt ms k ≠ m → ∀ j, j < k + 1 → markAt ms j ≠ m) := hid (fun h j hj => by
          rcases Nat.lt_or_ge j k with h' | h'
          · exact HE.out j h'
          · have e : j = k := by omega
            rw [e]; exact h)
        have EQ := hid (eq_marks (markAt ms k) m M1.out.len HM.out.len)
        generalize markAt ms k = z at HR M1 HQ HP EQ
        obtain ⟨b, hb⟩ : ∃ b, decide (z = m) = b := ⟨_, rfl⟩
        rw [hb] at EQ
        have HB' := hid hb
        have hz := Blk.new wr 24 (markL (List.replicate 16 0))
        obtain ⟨W2, hW2⟩ : ∃ W, W = (wr.alloc (.cells (markL (List.replicate 16 0)).toArray 24)).setCells wr.heap.size 0 (markL z) := ⟨_, rfl⟩
        have kW : Kp Nb wr W2 := by rw [hW2]; exact Kp.setCells (fun h => absurd h (Nat.lt_irrefl _)) _ 0 _ ((Kp.refl Nb wr).alloc _)
        have TH := hid (mark_there hz (by rw [markL_length]; rfl) M1.out)
        have SI := hid (mark_sized M1.out)
        have ON := hid (all_oneCell_toArray (markL_one z))
        have HZ : Hid (Blk W2 wr.heap.size 24 (markL z)) := hid (by rw [hW2]; exact row_set hz (by rw [markL_length, markL_length, M1.out.len]; rfl))
        have HB1 := hid (HB.out.kept kW (fun h => h))
        have HK1 := hid (HK.out.trans kW (fun _ _ h => h))
        clear hz kW hcell hC hb HE
        go_upto_region 4 with (first
          | (refine wpList_load_mid (by rfl) 24 (.tmp 11) (by rfl) blk (off + k * 16) (by rfl) (markL z) _ HR.out under_mark rfl (mark_infoL z M1.out.len) ?_)
          | (refine wpList_store_mid (by rfl) 24 (.tmp 6) (.tmp 12) (by rfl) wr.heap.size 0 (markL z).toArray (by rfl) (by rfl) TH.out SI.out ON.out ?_))
        rw [show (wr.alloc (.cells #[.int .u8 0, .int .u8 0, .int .u8 0, .int .u8 0, .int .u8 0, .int .u8 0, .int .u8 0, .int .u8 0, .int .u8 0, .int .u8 0, .int .u8 0, .int .u8 0, .int .u8 0, .int .u8 0, .int .u8 0, .int .u8 0] 24)).setCells wr.heap.size 0 (markL z) = W2 from hW2.symm]
        clear hW2 TH SI ON
        cases b with
        | true =>
          go_wp2_with (first
            | (refine wpList_load_mid (by rfl) 24 (.tmp 6) (by rfl) wr.heap.size 0 (by rfl) (markL z) _ (range_of HZ.out) under_mark rfl (mark_infoL z M1.out.len) ?_)
            | (refine wpList_load_mid (by rfl) 24 (.tmp 3) (by rfl) N 0 (by rfl) (markL m) _ (range_of HB1.out) under_mark rfl (mark_infoL m HM.out.len) ?_)
            | (refine wpList_val (by rfl) (.bool true) _ (exec_eqMark rfl (by rfl) (by rfl) (EQ.out _)) ?_))
          go_ret
          exact ⟨by rw [HQ.out (of_decide_eq_true HB'.out)]; rfl, HK1.out⟩
        | false =>
          go_wp2_with (first
            | (refine wpList_load_mid (by rfl) 24 (.tmp 6) (by rfl) wr.heap.size 0 (by rfl) (markL z) _ (range_of HZ.out) under_mark rfl (mark_infoL z M1.out.len) ?_)
            | (refine wpList_load_mid (by rfl) 24 (.tmp 3) (by rfl) N 0 (by rfl) (markL m) _ (range_of HB1.out) under_mark rfl (mark_infoL m HM.out.len) ?_)
            | (refine wpList_val (by rfl) (.bool false) _ (exec_eqMark rfl (by rfl) (by rfl) (EQ.out _)) ?_))
          go_roundw
          case rel => exact ⟨k + 1, by omega, by go_num, hid (HP.out (of_decide_eq_false HB'.out)), HB1, HK1⟩
          case measure => simp [intOf]; omega
    · obtain rfl : k = ms.length := by omega
      have HF : Hid (mhasB ms m = false) := hid (decide_eq_false (fun h => by
        obtain ⟨i, hi, e⟩ := mem_markAt h
        exact HE.out i hi e))
      clear HE
      go_wp2
      go_ret
      exact ⟨by rw [HF.out]; rfl, HK.out⟩
def RightR (w : World) (ms : List (List Int)) (i : Value) (wr : World) : Prop := ∃ k : Nat, 1 ≤ k ∧ k ≤ ms.length + 1 ∧ i = .int .i64 k ∧ Hid (∀ j, j + 1 < k → lexI (markAt ms j) (markAt ms (j + 1)) = true) ∧ Hid (Kp Nb w wr)
set_option maxRecDepth 100000 in
set_option maxHeartbeats 2000000 in
theorem rset_any (v : Value) (ms : List (List Int)) (w : World) (hs : MkSl w v ms) (hl : ms.length ≤ 1000000) :
    Calls Try.prog 12 #[v] w fun e w' => e = .returned (.bool (rightB ms)) ∧ Kp Nb w w' := by
  obtain ⟨y, d, rfl⟩ := hs.shape
  have HS := hid hs
  have HL := hid hl
  clear hs hl
  go_enter Try.func12, Try.ntmps12
  go_upto_region 2 with fail
  go_loopw [3] (RightR w ms) (fun i _ => ms.length + 1 - (intOf i).toNat)
  case atStart => exact ⟨1, by omega, by omega, rfl, hid (fun j hj => by omega), hid (Kp.refl _ _)⟩
  case round =>
    obtain ⟨k, hk1, hk, rfl, HE, HK⟩ := hrel
    obtain ⟨L, hL⟩ : ∃ L, ms.length = L := ⟨_, rfl⟩
    have HN := hid hL
    have HL' : Hid (L ≤ 1000000) := hid (by rw [← hL]; exact HL.out)
    by_cases hlt : k < ms.length
    · have hC := HS.out.kept HK.out
      rcases hC.2 with ⟨_, e0⟩ | ⟨blk, off, cap, e1, hc, hx, hcell⟩
      · rw [e0] at hlt
        exact absurd hlt (Nat.not_lt_zero _)
      · injection e1 with e1 _ e2
        subst e1 e2
        have H1 := hid (hcell (k - 1) (by omega))
        have H2 := hid (hcell k hlt)
        have M1 := hid (hC.1 (k - 1))
        have M2 := hid (hC.1 k)
        unfold maxLen at hx
        have HQ : Hid (lexI (markAt ms (k - 1)) (markAt ms k) = false → rightB ms = false) := hid (fun h => rightB_false (k - 1) (by omega) (by rw [show k - 1 + 1 = k from by omega]; exact h))
        have HP : Hid (lexI (markAt ms (k - 1)) (markAt ms k) = true → ∀ j, j + 1 < k + 1 → lexI (markAt ms j) (markAt ms (j + 1)) = true) := hid (fun h j hj => by
          rcases Nat.lt_or_ge (j + 1) k with h' | h'
          · exact HE.out j h'
          · have e : j = k - 1 := by omega
            rw [e, show k - 1 + 1 = k from by omega]; exact h)
        generalize markAt ms (k - 1) = z1 at H1 M1 HQ HP
        generalize markAt ms k = z2 at H2 M2 HQ HP
        obtain ⟨b, hb⟩ : ∃ b, lexI z1 z2 = b := ⟨_, rfl⟩
        have HB' := hid hb
        have CL : Hid (∀ w, Calls Try.prog 10 #[markV z1, markV z2] w fun e w' => e = .returned (.bool b) ∧ Kp Nb w w') := hid (fun w => by rw [← hb]; exact rless_any z1 z2 w M1.out M2.out)
        rw [hL] at hlt hc
        have FA : Hid (k - 1 < L ∧ k < L ∧ L ≤ d ∧ d ≤ 9223372036854775807) := hid ⟨by omega, hlt, hc, by omega⟩
        have FK : Hid (k - 1 ≤ 1000000 ∧ k ≤ 1000000 ∧ 1 ≤ k) := hid ⟨by have := HL'.out; omega, by have := HL'.out; omega, hk1⟩
        have hi : Hid ((k : Int) - 1 = ((k - 1 : Nat) : Int)) := hid (by omega)
        obtain ⟨p, hp⟩ : ∃ p, k - 1 = p := ⟨_, rfl⟩
        rw [hp] at H1 hi FA FK
        rw [hL]
        have HWP : Hid (IntKind.i64.wrap ((p : Nat) : Int) = (p : Int)) := hid (by rw [IntKind.wrap_i64]; have := FK.out; omega)
        clear hcell hC HE hb hL hp
        have hlt' := FA.out.2.1
        go_wp2_with fail
        refine region_vals2 [none, none, none, none, none, none, none, none, none, none, some 0, some 1, some 2, some 3, some 4, some 5, some 6, some 7, some 8, some 9, some 10] [[(0, none)], [(3, none)], [(11, some 1)], [(10, some 0), (12, some 2)], [(13, some 3)], [(0, none)], [(3, none)], [(15, some 5), (16, some 6)], [(17, some 7)], [(14, some 4), (18, some 8)], [(19, some 9)]] [some 10, some 11, some 12, some 13, some 14, some 15, some 16, some 17, some 18, some 19, some 20] [.slice (some ⟨blk, off, none⟩) L d, .int .i64 (k : Int), .int .i64 (p : Int), .pointer (some ⟨blk, off + p * 16, none⟩), markV z1, .slice (some ⟨blk, off, none⟩) L d, .int .i64 (k : Int), .pointer (some ⟨blk, off + k * 16, none⟩), markV z2, .bool b, .bool (!b)] (fun w' => Hid (Kp Nb wr w')) (by kernel_rfl) (by kernel_rfl) (by kernel_rfl) ?hS (VFrom.all (n := 11) (by kernel_rfl) ?hstep) ?hend
        case hstep =>
          refine VFrom.cons (VStep.val _ rfl _ rfl (.slice (some ⟨blk, off, none⟩) L d) rfl trivial (fun ev wq hS he hr => ?_)) ?_
          · have r0 : ev (.tmp 0) = .slice (some ⟨blk, off, none⟩) L d := hr (0, none) (by simp); have hk := he.1; clear hr he
            go_simp
          refine VFrom.cons (VStep.val _ rfl _ rfl (.int .i64 (k : Int)) rfl trivial (fun ev wq hS he hr => ?_)) ?_
          · have r0 : ev (.tmp 3) = .int .i64 (k : Int) := hr (3, none) (by simp); have hk := he.1; clear hr he
            go_simp
          refine VFrom.cons (VStep.val _ rfl _ rfl (.int .i64 (p : Int)) rfl trivial (fun ev wq hS he hr => ?_)) ?_
          · have r0 : ev (.tmp 11) = .int .i64 (k : Int) := hr (11, some 1) (by simp); have hk := he.1; clear hr he
            have e1 := HWP.out; have e2 := hi.out
            go_simp
          refine VFrom.cons (VStep.val _ rfl _ rfl (.pointer (some ⟨blk, off + p * 16, none⟩)) rfl trivial (fun ev wq hS he hr => ?_)) ?_
          · have r0 : ev (.tmp 10) = .slice (some ⟨blk, off, none⟩) L d := hr (10, some 0) (by simp); have r1 : ev (.tmp 12) = .int .i64 (p : Int) := hr (12, some 2) (by simp); have hk := he.1; clear hr he
            have e1 := FA.out
            go_simp
          refine VFrom.cons (VStep.val _ rfl _ rfl (markV z1) rfl trivial (fun ev wq hS he hr => ?_)) ?_
          · have r0 : ev (.tmp 13) = .pointer (some ⟨blk, off + p * 16, none⟩) := hr (13, some 3) (by simp); have hk := he.1; clear hr he
            exact exec_load rfl r0 (load_mark M1.out (range_kept H1.out hS.out))
          refine VFrom.cons (VStep.val _ rfl _ rfl (.slice (some ⟨blk, off, none⟩) L d) rfl trivial (fun ev wq hS he hr => ?_)) ?_
          · have r0 : ev (.tmp 0) = .slice (some ⟨blk, off, none⟩) L d := hr (0, none) (by simp); have hk := he.1; clear hr he
            go_simp
          refine VFrom.cons (VStep.val _ rfl _ rfl (.int .i64 (k : Int)) rfl trivial (fun ev wq hS he hr => ?_)) ?_
          · have r0 : ev (.tmp 3) = .int .i64 (k : Int) := hr (3, none) (by simp); have hk := he.1; clear hr he
            go_simp
          refine VFrom.cons (VStep.val _ rfl _ rfl (.pointer (some ⟨blk, off + k * 16, none⟩)) rfl trivial (fun ev wq hS he hr => ?_)) ?_
          · have r0 : ev (.tmp 15) = .slice (some ⟨blk, off, none⟩) L d := hr (15, some 5) (by simp); have r1 : ev (.tmp 16) = .int .i64 (k : Int) := hr (16, some 6) (by simp); have hk := he.1; clear hr he
            have e1 := FA.out
            go_simp
          refine VFrom.cons (VStep.val _ rfl _ rfl (markV z2) rfl trivial (fun ev wq hS he hr => ?_)) ?_
          · have r0 : ev (.tmp 17) = .pointer (some ⟨blk, off + k * 16, none⟩) := hr (17, some 7) (by simp); have hk := he.1; clear hr he
            exact exec_load rfl r0 (load_mark M2.out (range_kept H2.out hS.out))
          refine VFrom.cons (VStep.call _ rfl _ rfl (.bool b) rfl trivial 10 #[markV z1, markV z2] (fun ev wq hS he hr => ?_) (fun wq hS => ?_)) ?_
          · have r0 : ev (.tmp 14) = markV z1 := hr (14, some 4) (by simp); have r1 : ev (.tmp 18) = markV z2 := hr (18, some 8) (by simp); have hk := he.1; have hf := he.2; clear hr he
            go_simp
          · exact (CL.out wq).mono fun e w' ⟨h1, h2⟩ => ⟨h1, hS.out.trans h2 (fun _ _ h => h)⟩
          refine VFrom.cons (VStep.val _ rfl _ rfl (.bool (!b)) rfl trivial (fun ev wq hS he hr => ?_)) ?_
          · have r0 : ev (.tmp 19) = .bool b := hr (19, some 9) (by simp); have hk := he.1; clear hr he
            go_simp
          exact VFrom.nil
        case hS => exact hid ((Kp.refl Nb wr).drew)
        case hend =>
          intro w6 h6
          have K6 := hid (HK.out.trans h6.out (fun _ _ h => h))
          clear h6
          simp only [putAll, List.zip_cons_cons, List.zip_nil_right, List.foldl_cons, List.foldl_nil, Act.put, List.setIfInBounds_toArray, List.set_cons_zero, List.set_cons_succ]
          cases b with
          | true =>
            have RE : Hid (RightR w ms (.int .i64 ((k : Int) + 1)) w6) := hid ⟨k + 1, by omega, by rw [HN.out]; omega, by go_num, hid (HP.out HB'.out), K6⟩
            have hkk : k ≤ 1000000 := FK.out.2.1
            have HM : Hid (k ≤ ms.length) := hid (by rw [HN.out]; omega)
            go_wp2
            go_roundw
            case rel => exact RE.out
            case measure => have := HM.out; simp [intOf]; omega
          | false =>
            go_wp2
            go_ret
            exact ⟨by rw [HQ.out HB'.out]; rfl, K6.out⟩
    · have HF : Hid (rightB ms = true) := hid (rightB_of fun j hj => HE.out j (by omega))
      have hge : ¬ (k : Int) < (ms.length : Int) := by omega
      clear HE
      go_wp2
      go_ret
      exact ⟨by rw [HF.out]; rfl, HK.out⟩
end
section
open Go.RowKit Go.Shelf
attribute [local go_sem] Oper.semAt_some
theorem ownsRow_kp {w w' : World} {base e size k : Nat} {v : Value} {xs : List Value} (h : w.ownsRow base e size v k xs) (hk : Kp Nb w w') : w'.ownsRow base e size v k xs :=
  ownsRow_same h (fun g hg => by obtain ⟨-, o, ho, -⟩ := row_cells h hg; exact hk.heap (Array.getElem?_eq_some_iff.1 ho).1 (fun h => h))
end
section
open Go.RowKit Go.Shelf
attribute [local go_sem] Oper.semAt_some
theorem mark_info3 : ∃ i z, Try.prog.info? 24 = some i ∧ i.zero = some z ∧ i.size = 16 ∧ i.bytes = 16 ∧ z.cells.size = 16 := by
  have h : ((Try.prog.info? 24).map fun i => (i.zero.map fun z => z.cells.size, i.size, i.bytes)) = some (some 16, 16, 16) := by kernel_rfl
  obtain ⟨i, hi, h2⟩ := Option.map_eq_some_iff.1 h
  simp only [Prod.mk.injEq] at h2
  obtain ⟨z, hz, hz2⟩ := Option.map_eq_some_iff.1 h2.1
  exact ⟨i, z, hi, hz, h2.2.1, h2.2.2, hz2⟩
theorem make_mark1 (a : List Int) (ha : a.length = 16) (w : World) : (Instr.buildSlice 22 1 #[(0, markV a)]).run Try.prog w = .ok (.slice (some ⟨w.heap.size, 0, none⟩) 1 1) (w.alloc (.cells (markL a).toArray 24 (0, 0))) := by
  obtain ⟨a0, a1, a2, a3, a4, a5, a6, a7, a8, a9, a10, a11, a12, a13, a14, a15, rfl⟩ := sixteen a ha
  kernel_rfl
theorem rows_one {W : World} {B : Nat} {a : List Int} (h : Blk W B 24 (markL a)) : RowsSl markL (List.replicate 16 0) 16 W (.slice (some ⟨B, 0, none⟩) 1 1) [a] := by
  refine .inr ⟨B, 0, 1, rfl, Nat.le_refl _, by unfold maxLen; omega, fun i hi => ?_⟩
  have e : i = 0 := by simp at hi; omega
  subst e
  exact range_of h
theorem mksl_own {W : World} {base : Nat} {v : Value} {ms : List (List Int)} (ho : ∀ q ∈ ms, MarkOk q) (h : W.ownsRow base 24 16 v ms.length (flatR markL ms)) : MkSl W v ms := by
  refine ⟨fun i => ?_, rows_owned h (fun q hq => by rw [markL_length, (ho q hq).len])⟩
  unfold markAt
  cases hi : ms[i]? with
  | none => exact zero_ok
  | some m => exact ho m (List.mem_of_getElem? hi)
theorem markAt_ins (out : List (List Int)) (z : List Int) (p : Nat) (hp : p ≤ out.length) (i : Nat) : markAt (out.take p ++ [z] ++ out.drop p) i = if i < p then markAt out i else if i = p then z else markAt out (i - 1) := by
  have hl : (out.take p).length = p := by rw [List.length_take]; omega
  unfold markAt
  split
  · rename_i h
    rw [List.append_assoc, List.getElem?_append_left (by omega), List.getElem?_take, if_pos h]
  · split
    · rename_i h1 h
      subst h
      rw [List.append_assoc, List.getElem?_append_right (by omega), hl, Nat.sub_self]
      rfl
    · rw [List.getElem?_append_right (by rw [List.length_append, hl]; simp; omega), List.length_append, hl, List.length_singleton, List.getElem?_drop, show p + (i - (p + 1)) = i - 1 from by omega]
theorem rise_insert {out : List (List Int)} {z : List Int} {p : Nat} (hp : p ≤ out.length) (hr : Rise out) (h1 : ∀ j, p ≤ j → j < out.length → lexI z (markAt out j) = true) (h2 : ∀ j, j < p → lexI (markAt out j) z = true) : Rise (out.take p ++ [z] ++ out.drop p) := by
  intro i j hij hj
  have hj' : j < out.length + 1 := by
    simp only [List.length_append, List.length_take, List.length_drop, List.length_singleton] at hj
    omega
  rw [markAt_ins out z p hp i, markAt_ins out z p hp j]
  by_cases a : j < p
  · rw [if_pos (by omega), if_pos a]; exact hr i j hij (by omega)
  · rw [if_neg a]
    by_cases b : j = p
    · rw [if_pos b, if_pos (by omega)]; exact h2 i (by omega)
    · rw [if_neg b]
      by_cases c : i < p
      · rw [if_pos c]; exact hr i (j - 1) (by omega) (by omega)
      · rw [if_neg c]
        by_cases d : i = p
        · rw [if_pos d]; exact h1 (j - 1) (by omega) (by omega)
        · rw [if_neg d]; exact hr (i - 1) (j - 1) (by omega) (by omega)
theorem mem_insert {out us vs : List (List Int)} {z : List Int} (p : Nat) (h : ∀ m, m ∈ out ↔ m ∈ us) (hv : ∀ m, m ∈ vs ↔ m ∈ us ∨ m = z) (m : List Int) : m ∈ out.take p ++ [z] ++ out.drop p ↔ m ∈ vs := by
  rw [hv, ← h]
  have e : m ∈ out ↔ m ∈ out.take p ∨ m ∈ out.drop p := by
    rw [← List.mem_append, List.take_append_drop]
  simp only [List.mem_append, List.mem_singleton]
  rw [e]
  constructor
  · rintro ((h | h) | h)
    · exact .inl (.inl h)
    · exact .inr h
    · exact .inl (.inr h)
  · rintro ((h | h) | h)
    · exact .inl (.inl h)
    · exact .inr h
    · exact .inl (.inr h)
theorem mem_snoc (ms : List (List Int)) (k : Nat) (h : k < ms.length) (m : List Int) : m ∈ ms.take (k + 1) ↔ m ∈ ms.take k ∨ m = markAt ms k := by
  unfold markAt
  rw [List.take_succ_eq_append_getElem h, List.mem_append, List.mem_singleton, List.getElem?_eq_getElem h]
  rfl
def MarksR (w : World) (ms : List (List Int)) (i u : Value) (wr : World) : Prop := ∃ (k : Nat) (out : List (List Int)), k ≤ ms.length ∧ i = .int .i64 k ∧ Hid (wr.ownsRow w.heap.size 24 16 u out.length (flatR markL out)) ∧
  Hid (∀ q ∈ out, MarkOk q) ∧ Hid (Rise out) ∧ Hid (∀ m, m ∈ out ↔ m ∈ ms.take k) ∧ Hid (out.length ≤ k) ∧ Hid (Kp Nb w wr)
def MkIn (W2 : World) (z : List Int) (out : List (List Int)) (L : Nat) (i : Value) (wr : World) : Prop := ∃ p : Nat, p ≤ L ∧ i = .int .i64 p ∧ Hid (∀ j, p ≤ j → j < out.length → lexI z (markAt out j) = true) ∧ Hid (Kp Nb W2 wr)
set_option maxRecDepth 100000 in
set_option maxHeartbeats 8000000 in
theorem rmarks_any (v : Value) (ms : List (List Int)) (w : World) (hs : MkSl w v ms) (hbig : ms.length ≤ 100000) :
    Calls Try.prog 15 #[v] w fun e w' => ∃ v' out, e = .returned v' ∧ MkSl w' v' out ∧ Rise out ∧ (∀ m, m ∈ out ↔ m ∈ ms) ∧ out.length ≤ ms.length ∧ Kp Nb w w' := by
  obtain ⟨y, d, rfl⟩ := hs.shape
  have HS := hid hs
  have HBG := hid hbig
  clear hs hbig
  go_enter Try.func15, Try.ntmps15
  go_wp2
  go_loopw [10, 3] (MarksR w ms) (fun i _ _ => ms.length - (intOf i).toNat)
  case atStart => exact ⟨0, [], by omega, rfl, hid ⟨rfl, .inl ⟨rfl, rfl⟩⟩, hid (fun q hq => by cases hq), hid (fun i j _ h => absurd h (Nat.not_lt_zero _)), hid (fun m => by simp), hid (Nat.le_refl _), hid (Kp.refl _ _)⟩
  case round =>
    obtain ⟨k, out, hk, rfl, HA, OK, RI, MI, HLK, HK⟩ := hrel
    obtain ⟨y3, d3, rfl⟩ := own_shape HA.out
    by_cases hlt : k < ms.length
    · have hC := HS.out.kept HK.out
      rcases hC.2 with ⟨_, e0⟩ | ⟨blk, off, cap, e1, hc, hm, hcell⟩
      · rw [e0] at hlt
        exact absurd hlt (Nat.not_lt_zero _)
      · injection e1 with e1 _ e2
        subst e1 e2
        have HR := hid (hcell k hlt)
        have M1 := hid (hC.1 k)
        have HMS := hid (mem_snoc ms k hlt)
        unfold maxLen at hm
        generalize markAt ms k = z at HR M1 HMS
        obtain ⟨N5, hN5⟩ : ∃ N, wr.heap.size = N := ⟨_, rfl⟩
        have hz := Blk.new wr 24 (markL (List.replicate 16 0))
        obtain ⟨W2, hW2⟩ : ∃ W, W = (wr.alloc (.cells (markL (List.replicate 16 0)).toArray 24)).setCells wr.heap.size 0 (markL z) := ⟨_, rfl⟩
        have kW : Kp Nb wr W2 := by rw [hW2]; exact Kp.setCells (fun h => absurd h (Nat.lt_irrefl _)) _ 0 _ ((Kp.refl Nb wr).alloc _)
        have TH := hid (mark_there hz (by rw [markL_length]; rfl) M1.out)
        have SI := hid (mark_sized M1.out)
        have ON := hid (all_oneCell_toArray (markL_one z))
        have HZ : Hid (Blk W2 N5 24 (markL z)) := hid (by rw [hW2, ← hN5]; exact row_set hz (by rw [markL_length, markL_length, M1.out.len]; rfl))
        have HA2 := hid (ownsRow_kp HA.out kW)
        have HK2 := hid (HK.out.trans kW (fun _ _ h => h))
        obtain ⟨L, hL⟩ : ∃ L, out.length = L := ⟨_, rfl⟩
        have HLL := hid hL
        have HLB : Hid (L ≤ 100000) := hid (by have := HLK.out; have := HBG.out; omega)
        have HS2 := hid (mksl_own OK.out HA2.out)
        have HN5 := hid hN5
        rw [hL] at HA2 HLK HS2 ⊢
        clear hz kW hcell hC HA hN5 hL
        go_upto_region 5 with (first
          | (refine wpList_load_mid (by rfl) 24 (.tmp 12) (by rfl) blk (off + k * 16) (by rfl) (markL z) _ HR.out under_mark rfl (mark_infoL z M1.out.len) ?_)
          | (refine wpList_store_mid (by rfl) 24 (.tmp 5) (.tmp 13) (by rfl) wr.heap.size 0 (markL z).toArray (by rfl) (by rfl) TH.out SI.out ON.out ?_))
        rw [show (wr.alloc (.cells #[.int .u8 0, .int .u8 0, .int .u8 0, .int .u8 0, .int .u8 0, .int .u8 0, .int .u8 0, .int .u8 0, .int .u8 0, .int .u8 0, .int .u8 0, .int .u8 0, .int .u8 0, .int .u8 0, .int .u8 0, .int .u8 0] 24)).setCells wr.heap.size 0 (markL z) = W2 from hW2.symm, HN5.out]
        clear hW2 TH SI ON HN5 HR
        go_wp2
        go_loopw [6] (MkIn W2 z out L) (fun i _ => (intOf i).toNat)
        case atStart => exact ⟨L, Nat.le_refl _, rfl, hid (fun j h1 h2 => by have := HLL.out; omega), hid (Kp.refl _ _)⟩
        case round =>
          rename_i wq _
          obtain ⟨p, hp, rfl, HJ, HQ⟩ := hrel
          have HPL := hid hp
          by_cases hpz : 0 < p
          · obtain ⟨q, hq⟩ : ∃ q, p - 1 = q := ⟨_, rfl⟩
            have HPQ : Hid (p = q + 1) := hid (by omega)
            have HPB := HLB.out
            have HI : Hid ((p : Int) - 1 = (q : Int)) := hid (by omega)
            have HWP : Hid (IntKind.i64.wrap (q : Int) = (q : Int)) := hid (by rw [IntKind.wrap_i64]; omega)
            have FP := hid hpz
            rcases (HS2.out.kept HQ.out).2 with ⟨_, e0⟩ | ⟨C, o3, c3, e3, f1, f2, f3⟩
            · have := HLL.out; rw [e0] at this; simp at this; omega
            · injection e3 with e3 e7 e4
              subst e3 e4
              clear e7
              have HXK : Hid (∀ wx, Kp Nb W2 wx → wx.rangeAt C (o3 + q * 16) (markL (markAt out q))) := hid (fun wx kx => by
                rcases (HS2.out.kept kx).2 with ⟨_, e0⟩ | ⟨C', o', c', e3, g1, g2, g3⟩
                · have := HLL.out; rw [e0] at this; simp at this; omega
                · injection e3 with e3 _ _
                  injection e3 with e3
                  injection e3 with e3 e5 _
                  subst e3 e5
                  exact g3 q (by have := HLL.out; omega))
              have XO : Hid (MarkOk (markAt out q)) := hid (OK.out _ (markAt_mem (by have := HLL.out; omega)))
              have HXM : Hid (markAt out q ∈ out) := hid (markAt_mem (by have := HLL.out; omega))
              unfold maxLen at f2
              have FA : Hid (q < L ∧ L ≤ d3 ∧ d3 ≤ 9223372036854775807) := hid ⟨by omega, by have := HLL.out; omega, by omega⟩
              have HJT : Hid (lexI z (markAt out q) = true → ∀ j, q ≤ j → j < out.length → lexI z (markAt out j) = true) := hid (fun h j h1 h2 => by
                rcases Nat.lt_or_ge j p with h' | h'
                · have e : j = q := by omega
                  rw [e]; exact h
                · exact HJ.out j h' h2)
              have HJF : Hid (lexI z (markAt out q) = false → markAt out q ≠ z → ∀ j, j < p → lexI (markAt out j) z = true) := hid (fun h h' j hj => by
                have e : lexI (markAt out q) z = true := by
                  cases e : lexI (markAt out q) z with
                  | true => rfl
                  | false => exact absurd (lexI_tri _ _ e h) h'
                rcases Nat.lt_or_ge j q with h1 | h1
                · exact lexI_trans _ _ _ (RI.out j q h1 (by have := HLL.out; omega)) e
                · have e2 : j = q := by omega
                  rw [e2]; exact e)
              generalize markAt out q = x at HXK XO HJT HJF HXM
              have CL : Hid (∀ w, Calls Try.prog 10 #[markV z, markV x] w fun e w' => e = .returned (.bool (lexI z x)) ∧ Kp Nb w w') := hid (fun w => rless_any z x w M1.out XO.out)
              obtain ⟨b, hb⟩ : ∃ b, lexI z x = b := ⟨_, rfl⟩
              rw [hb] at CL HJT HJF
              have EQ := hid (eq_marks x z XO.out.len M1.out.len)
              obtain ⟨dd, hdd⟩ : ∃ dd, decide (x = z) = dd := ⟨_, rfl⟩
              rw [hdd] at EQ
              have HDD := hid hdd
              clear f1 f2 f3 hb hdd hq HPB
              go_upto_region 6 with fail
              refine region_vals2 [none, none, none, none, none, none, none, none, none, none, none, none, none, none, none, none, some 0, some 1, some 2, some 3, some 4, some 5, some 6, some 7, some 8, some 9, some 10, none, none, none, none, none, none, none, none, none, none, none, none, none, none, none, none, none, none, none, none, none, none, none, none, none, none, none, none, none] [[(6, none)], [(16, some 0)], [(17, some 1)], [(5, none)], [(3, none)], [(6, none)], [(21, some 5)], [(20, some 4), (22, some 6)], [(23, some 7)], [(19, some 3), (24, some 8)], [(18, some 2), (25, some 9)]] [some 16, some 17, some 18, some 19, some 20, some 21, some 22, some 23, some 24, some 25, some 26] [.int .i64 (p : Int), .bool true, .bool true, markV z, .slice (some ⟨C, o3, none⟩) L d3, .int .i64 (p : Int), .int .i64 (q : Int), .pointer (some ⟨C, o3 + q * 16, none⟩), markV x, .bool b, .bool b] (fun w' => Hid (Kp Nb W2 w')) (by kernel_rfl) (by kernel_rfl) (by kernel_rfl) ?hS (VFrom.all (n := 11) (by kernel_rfl) ?hstep) ?hend
              case hstep =>
                refine VFrom.cons (VStep.val _ rfl _ rfl (.int .i64 (p : Int)) rfl trivial (fun ev wq hS he hr => ?_)) ?_
                · have r0 : ev (.tmp 6) = .int .i64 (p : Int) := hr (6, none) (by simp); have hk := he.1; clear hr he
                  go_simp
                refine VFrom.cons (VStep.val _ rfl _ rfl (.bool true) rfl trivial (fun ev wq hS he hr => ?_)) ?_
                · have r0 : ev (.tmp 16) = .int .i64 (p : Int) := hr (16, some 0) (by simp); have hk := he.1; clear hr he
                  have e1 := FP.out
                  go_simp
                refine VFrom.cons (VStep.val _ rfl _ rfl (.bool true) rfl trivial (fun ev wq hS he hr => ?_)) ?_
                · have r0 : ev (.tmp 17) = .bool true := hr (17, some 1) (by simp); have hk := he.1; clear hr he
                  go_simp
                refine VFrom.cons (VStep.val _ rfl _ rfl (markV z) rfl rfl (fun ev wq hS he hr => ?_)) ?_
                · have r0 : ev (.tmp 5) = .pointer (some ⟨N5, 0, none⟩) := hr (5, none) (by simp); have hk := he.1; clear hr he
                  exact exec_load rfl r0 (load_mark M1.out (range_of (HZ.out.kept hS.out (fun h => h))))
                refine VFrom.cons (VStep.val _ rfl _ rfl (.slice (some ⟨C, o3, none⟩) L d3) rfl rfl (fun ev wq hS he hr => ?_)) ?_
                · have r0 : ev (.tmp 3) = .slice (some ⟨C, o3, none⟩) L d3 := hr (3, none) (by simp); have hk := he.1; clear hr he
                  go_simp
                refine VFrom.cons (VStep.val _ rfl _ rfl (.int .i64 (p : Int)) rfl rfl (fun ev wq hS he hr => ?_)) ?_
                · have r0 : ev (.tmp 6) = .int .i64 (p : Int) := hr (6, none) (by simp); have hk := he.1; clear hr he
                  go_simp
                refine VFrom.cons (VStep.val _ rfl _ rfl (.int .i64 (q : Int)) rfl rfl (fun ev wq hS he hr => ?_)) ?_
                · have r0 : ev (.tmp 21) = .int .i64 (p : Int) := hr (21, some 5) (by simp); have hk := he.1; clear hr he
                  have e1 := HWP.out; have e2 := HI.out
                  go_simp
                refine VFrom.cons (VStep.val _ rfl _ rfl (.pointer (some ⟨C, o3 + q * 16, none⟩)) rfl rfl (fun ev wq hS he hr => ?_)) ?_
                · have r0 : ev (.tmp 20) = .slice (some ⟨C, o3, none⟩) L d3 := hr (20, some 4) (by simp); have r1 : ev (.tmp 22) = .int .i64 (q : Int) := hr (22, some 6) (by simp); have hk := he.1; clear hr he
                  have e1 := FA.out
                  go_simp
                refine VFrom.cons (VStep.val _ rfl _ rfl (markV x) rfl rfl (fun ev wq hS he hr => ?_)) ?_
                · have r0 : ev (.tmp 23) = .pointer (some ⟨C, o3 + q * 16, none⟩) := hr (23, some 7) (by simp); have hk := he.1; clear hr he
                  exact exec_load rfl r0 (load_mark XO.out (HXK.out wq hS.out))
                refine VFrom.cons (VStep.call _ rfl _ rfl (.bool b) rfl rfl 10 #[markV z, markV x] (fun ev wq hS he hr => ?_) (fun wq hS => ?_)) ?_
                · have r0 : ev (.tmp 19) = markV z := hr (19, some 3) (by simp); have r1 : ev (.tmp 24) = markV x := hr (24, some 8) (by simp); have hk := he.1; have hf := he.2; clear hr he
                  go_simp
                · exact (CL.out wq).mono fun e w' ⟨h1, h2⟩ => ⟨h1, hid (hS.out.trans h2 (fun _ _ h => h))⟩
                refine VFrom.cons (VStep.val _ rfl _ rfl (.bool b) rfl trivial (fun ev wq hS he hr => ?_)) ?_
                · have r0 : ev (.tmp 18) = .bool true := hr (18, some 2) (by simp); have r1 : ev (.tmp 25) = .bool b := hr (25, some 9) (by simp); have hk := he.1; clear hr he
                  go_simp
                exact VFrom.nil
              case hS => exact hid (Kp.drew HQ.out)
              case hend =>
                intro w6 h6
                have K6 := h6
                clear h6
                simp only [putAll, List.zip_cons_cons, List.zip_nil_right, List.foldl_cons, List.foldl_nil, Act.put, List.setIfInBounds_toArray, List.set_cons_zero, List.set_cons_succ]
                cases b with
                | true =>
                  have RE : Hid (MkIn W2 z out L (.int .i64 (q : Int)) w6) := hid ⟨q, by have := FA.out; omega, rfl, hid (HJT.out rfl), K6⟩
                  have e1 := HI.out
                  have e2 := HWP.out
                  go_wp2
                  go_roundw
                  case rel => exact RE.out
                  case measure => have := HPQ.out; simp [intOf]; omega
                | false =>
                  go_upto_region 8 with fail
                  refine region_vals2 [none, none, none, none, none, none, none, none, none, none, none, none, none, none, none, none, none, none, none, none, none, none, none, none, none, none, none, none, none, some 0, some 1, some 2, some 3, some 4, some 5, some 6, some 7, some 8, some 9, some 10, none, none, none, none, none, none, none, none, none, none, none, none, none, none, none, none] [[(6, none)], [(29, some 0)], [(30, some 1)], [(3, none)], [(6, none)], [(33, some 4)], [(32, some 3), (34, some 5)], [(35, some 6)], [(5, none)], [(36, some 7), (37, some 8)], [(31, some 2), (38, some 9)]] [some 29, some 30, some 31, some 32, some 33, some 34, some 35, some 36, some 37, some 38, some 39] [.int .i64 (p : Int), .bool true, .bool true, .slice (some ⟨C, o3, none⟩) L d3, .int .i64 (p : Int), .int .i64 (q : Int), .pointer (some ⟨C, o3 + q * 16, none⟩), markV x, markV z, .bool dd, .bool dd] (fun w' => Hid (Kp Nb W2 w')) (by kernel_rfl) (by kernel_rfl) (by kernel_rfl) ?hS (VFrom.all (n := 11) (by kernel_rfl) ?hstep) ?hend
                  case hstep =>
                    refine VFrom.cons (VStep.val _ rfl _ rfl (.int .i64 (p : Int)) rfl trivial (fun ev wq hS he hr => ?_)) ?_
                    · have r0 : ev (.tmp 6) = .int .i64 (p : Int) := hr (6, none) (by simp); have hk := he.1; clear hr he
                      go_simp
                    refine VFrom.cons (VStep.val _ rfl _ rfl (.bool true) rfl trivial (fun ev wq hS he hr => ?_)) ?_
                    · have r0 : ev (.tmp 29) = .int .i64 (p : Int) := hr (29, some 0) (by simp); have hk := he.1; clear hr he
                      have e1 := FP.out
                      go_simp
                    refine VFrom.cons (VStep.val _ rfl _ rfl (.bool true) rfl trivial (fun ev wq hS he hr => ?_)) ?_
                    · have r0 : ev (.tmp 30) = .bool true := hr (30, some 1) (by simp); have hk := he.1; clear hr he
                      go_simp
                    refine VFrom.cons (VStep.val _ rfl _ rfl (.slice (some ⟨C, o3, none⟩) L d3) rfl rfl (fun ev wq hS he hr => ?_)) ?_
                    · have r0 : ev (.tmp 3) = .slice (some ⟨C, o3, none⟩) L d3 := hr (3, none) (by simp); have hk := he.1; clear hr he
                      go_simp
                    refine VFrom.cons (VStep.val _ rfl _ rfl (.int .i64 (p : Int)) rfl rfl (fun ev wq hS he hr => ?_)) ?_
                    · have r0 : ev (.tmp 6) = .int .i64 (p : Int) := hr (6, none) (by simp); have hk := he.1; clear hr he
                      go_simp
                    refine VFrom.cons (VStep.val _ rfl _ rfl (.int .i64 (q : Int)) rfl rfl (fun ev wq hS he hr => ?_)) ?_
                    · have r0 : ev (.tmp 33) = .int .i64 (p : Int) := hr (33, some 4) (by simp); have hk := he.1; clear hr he
                      have e1 := HWP.out; have e2 := HI.out
                      go_simp
                    refine VFrom.cons (VStep.val _ rfl _ rfl (.pointer (some ⟨C, o3 + q * 16, none⟩)) rfl rfl (fun ev wq hS he hr => ?_)) ?_
                    · have r0 : ev (.tmp 32) = .slice (some ⟨C, o3, none⟩) L d3 := hr (32, some 3) (by simp); have r1 : ev (.tmp 34) = .int .i64 (q : Int) := hr (34, some 5) (by simp); have hk := he.1; clear hr he
                      have e1 := FA.out
                      go_simp
                    refine VFrom.cons (VStep.val _ rfl _ rfl (markV x) rfl rfl (fun ev wq hS he hr => ?_)) ?_
                    · have r0 : ev (.tmp 35) = .pointer (some ⟨C, o3 + q * 16, none⟩) := hr (35, some 6) (by simp); have hk := he.1; clear hr he
                      exact exec_load rfl r0 (load_mark XO.out (HXK.out wq hS.out))
                    refine VFrom.cons (VStep.val _ rfl _ rfl (markV z) rfl rfl (fun ev wq hS he hr => ?_)) ?_
                    · have r0 : ev (.tmp 5) = .pointer (some ⟨N5, 0, none⟩) := hr (5, none) (by simp); have hk := he.1; clear hr he
                      exact exec_load rfl r0 (load_mark M1.out (range_of (HZ.out.kept hS.out (fun h => h))))
                    refine VFrom.cons (VStep.val _ rfl _ rfl (.bool dd) rfl rfl (fun ev wq hS he hr => ?_)) ?_
                    · have r0 : ev (.tmp 36) = markV x := hr (36, some 7) (by simp); have r1 : ev (.tmp 37) = markV z := hr (37, some 8) (by simp); have hk := he.1; clear hr he
                      exact exec_eqMark rfl r0 r1 (EQ.out wq)
                    refine VFrom.cons (VStep.val _ rfl _ rfl (.bool dd) rfl trivial (fun ev wq hS he hr => ?_)) ?_
                    · have r0 : ev (.tmp 31) = .bool true := hr (31, some 2) (by simp); have r1 : ev (.tmp 38) = .bool dd := hr (38, some 9) (by simp); have hk := he.1; clear hr he
                      go_simp
                    exact VFrom.nil
                  case hS => exact hid (Kp.drew K6.out)
                  case hend =>
                    intro w7 h7
                    have K7' := h7
                    clear h7
                    simp only [putAll, List.zip_cons_cons, List.zip_nil_right, List.foldl_cons, List.foldl_nil, Act.put, List.setIfInBounds_toArray, List.set_cons_zero, List.set_cons_succ]
                    cases dd with
                    | true =>
                      have e9 : x = z := of_decide_eq_true HDD.out
                      have RE : Hid (MarksR w ms (.int .i64 ((k : Int) + 1)) (.slice (some ⟨C, o3, none⟩) L d3) w7) := hid ⟨k + 1, out, by omega, by go_num, hid (by rw [HLL.out]; exact ownsRow_kp HA2.out K7'.out), OK, RI, hid (fun m => by
                        rw [HMS.out, ← MI.out]
                        exact ⟨.inl, fun h => h.elim (fun h => h) (fun h => by rw [h, ← e9]; exact HXM.out)⟩), hid (by have := HLK.out; have := HLL.out; omega), hid (HK2.out.trans K7'.out (fun _ _ h => h))⟩
                      clear e9
                      go_wp2
                      go_roundw
                      case rel => exact RE.out
                      case measure => simp [intOf]; omega
                    | false =>
                      have HA7 : Hid (w7.ownsRow w.heap.size 24 16 (.slice (some ⟨C, o3, none⟩) L d3) out.length (flatR markL out)) := hid (by rw [HLL.out]; exact ownsRow_kp HA2.out K7'.out)
                      have HZ7 := hid (HZ.out.kept K7'.out (fun h => h))
                      have K7 := hid (HK2.out.trans K7'.out (fun _ _ h => h))
                      have HJL : Hid (∀ j, j < p → lexI (markAt out j) z = true) := hid (HJF.out rfl (of_decide_eq_false HDD.out))
                      have TH := hid (show p ≤ out.length from by have := HPL.out; have := HLL.out; omega)
                      obtain ⟨xh, dh, VH, RH⟩ := (rows_owned HA7.out (fun q hq => by rw [markL_length, (OK.out q hq).len])).cutH (z := List.replicate 16 0) Try.underlying22 mark_info p TH.out
                      obtain ⟨xl, dl, VL, RL⟩ := (rows_owned HA7.out (fun q hq => by rw [markL_length, (OK.out q hq).len])).cutL (z := List.replicate 16 0) Try.underlying22 mark_info p TH.out
                      have HRH := hid RH
                      have HRL := hid RL
                      have HBD : Hid (L ≤ 100000 ∧ p ≤ L) := hid ⟨by have := HLB.out; omega, HPL.out⟩
                      have TL : Hid ((out.take p).length = p) := hid (by rw [List.length_take]; have := TH.out; omega)
                      have DL : Hid ((out.drop p).length = L - p) := hid (by rw [List.length_drop, HLL.out])
                      have B1 : Hid (0 + (out.take p).length ≤ maxLen ∧ (0 + (out.take p).length) * 16 ≤ 140737488355328) := hid (by rw [TL.out]; unfold maxLen; have := HBD.out; omega)
                      have B2 : Hid (p + [z].length ≤ maxLen ∧ (p + [z].length) * 16 ≤ 140737488355328) := hid (by rw [List.length_singleton]; unfold maxLen; have := HBD.out; omega)
                      have B3 : Hid (p + 1 + (out.drop p).length ≤ maxLen ∧ (p + 1 + (out.drop p).length) * 16 ≤ 140737488355328) := hid (by rw [DL.out]; unfold maxLen; have := HBD.out; omega)
                      obtain ⟨i0, z0, hi, hz0, hz1, hz2, hz3⟩ := mark_info3
                      have FT : Hid (∀ q ∈ out.take p, (markL q).length = 16) := hid (fun q hq => by rw [markL_length, (OK.out q (List.mem_of_mem_take hq)).len])
                      have FD : Hid (∀ q ∈ out.drop p, (markL q).length = 16) := hid (fun q hq => by rw [markL_length, (OK.out q (List.mem_of_mem_drop hq)).len])
                      have VH' := VH; have VL' := VL
                      rw [HLL.out] at VL'
                      clear VH VL RH RL
                      go_wp2_with (at_builtin; refine wpList_append_rows (f := markL) (z := List.replicate 16 0) (c := 16) rfl _ _ 22 rfl w7.heap.size 24 i0 z0 16 Try.underlying22 hi hz0 hz1 hz2 hz3 (by decide) _ 0 [] rfl (World.ownsRow_made w7 #[] 0 (Nat.le_refl _) (Nat.zero_le _) rfl) _ (out.take p) rfl (HRH.out.kept ((Kp.refl Nb w7).alloc _)) FT.out (fun q _ => markL_one q) B1.out.1 B1.out.2 ((Kp.refl Nb w7).alloc _).size ?_)
                      intro v9 w9 hown hgrow
                      replace hown : w9.ownsRow w7.heap.size 24 16 v9 (p) (flatR markL (out.take p)) := by
                        have e := TL.out
                        rw [List.length_take] at e
                        simpa only [List.length_take, List.length_drop, List.length_singleton, List.length_cons, List.length_nil, e, Nat.zero_add, List.nil_append, List.append_assoc] using hown
                      have hk := ((Kp.refl Nb w7).alloc (.cells #[] 24)).grown hgrow (fun k hk h => by simp [Value.ownBlock] at hk; omega)
                      have HO9 := hid hown
                      have K9 := hid hk
                      have HZ9 := hid (HZ7.out.kept hk (fun h => h))
                      have S9 := hid hk.size
                      have MK9 := hid (make_mark1 z M1.out.len w9)
                      have hy := own_shape hown
                      clear hown hgrow hk
                      obtain ⟨a9, c9, rfl⟩ := hy
                      go_wp2_with (first
                        | (refine wpList_load_mid (by rfl) 24 (.tmp 5) (by rfl) N5 0 (by rfl) (markL z) _ (range_of HZ9.out) under_mark rfl (mark_infoL z M1.out.len) ?_)
                        | (refine wpList_val (by rfl) _ _ (exec_buildSlice rfl (qs := #[(0, markV z)]) (by simp [Act.eval, Act.put]) MK9.out) ?_)
                        | (at_builtin; refine wpList_append_rows (f := markL) (z := List.replicate 16 0) (c := 16) rfl _ _ 22 rfl w7.heap.size 24 i0 z0 16 Try.underlying22 hi hz0 hz1 hz2 hz3 (by decide) _ _ _ rfl (ownsRow_kp HO9.out ((Kp.refl Nb w9).alloc _)) _ [z] rfl (rows_one (Blk.new _ _ _)) (fun q hq => by rw [List.mem_singleton.1 hq, markL_length, M1.out.len]) (fun q _ => markL_one q) B2.out.1 B2.out.2 (Nat.le_trans S9.out ((Kp.refl Nb w9).alloc _).size) ?_))
                      intro v10 w10 hown hgrow
                      replace hown : w10.ownsRow w7.heap.size 24 16 v10 (p + 1) (flatR markL (out.take p) ++ flatR markL [z]) := by
                        have e := TL.out
                        rw [List.length_take] at e
                        simpa only [List.length_take, List.length_drop, List.length_singleton, List.length_cons, List.length_nil, e, Nat.zero_add, List.nil_append, List.append_assoc] using hown
                      have hk := (K9.out.alloc (.cells (markL z).toArray 24 (0, 0))).grown hgrow (fun k hk h => by have := (row_cells HO9.out hk).1; omega)
                      have HO10 := hid hown
                      have K10 := hid hk
                      have S10 := hid hk.size
                      have hy := own_shape hown
                      clear hown hgrow hk
                      obtain ⟨a10, c10, rfl⟩ := hy
                      go_wp2_with (at_builtin; refine wpList_append_rows (f := markL) (z := List.replicate 16 0) (c := 16) rfl _ _ 22 rfl w7.heap.size 24 i0 z0 16 Try.underlying22 hi hz0 hz1 hz2 hz3 (by decide) _ _ _ rfl HO10.out _ (out.drop p) rfl (by have h := HRL.out.kept K10.out; rw [HLL.out] at h; exact h) FD.out (fun q _ => markL_one q) B3.out.1 B3.out.2 S10.out ?_)
                      intro v11 w11 hown hgrow
                      replace hown : w11.ownsRow w7.heap.size 24 16 v11 (p + 1 + (out.drop p).length) (flatR markL (out.take p) ++ flatR markL [z] ++ flatR markL (out.drop p)) := by
                        have e := TL.out
                        rw [List.length_take] at e
                        simpa only [List.length_take, List.length_drop, List.length_singleton, List.length_cons, List.length_nil, e, Nat.zero_add, List.nil_append, List.append_assoc] using hown
                      have hk := K10.out.grown hgrow (fun k hk h => by have := (row_cells HO10.out hk).1; omega)
                      have RE : Hid (MarksR w ms (.int .i64 ((k : Int) + 1)) v11 w11) := hid (by
                        have h7 := K7.out.size
                        refine ⟨k + 1, out.take p ++ [z] ++ out.drop p, by omega, by go_num, hid ?_, hid ?_, hid ?_, hid ?_, hid ?_, hid ((K7.out.trans hk (fun _ _ h => h)))⟩
                        · have e1 : (out.take p ++ [z] ++ out.drop p).length = p + 1 + (out.drop p).length := by rw [List.length_append, List.length_append, TL.out, List.length_singleton]
                          have e2 : flatR markL (out.take p ++ [z] ++ out.drop p) = flatR markL (out.take p) ++ flatR markL [z] ++ flatR markL (out.drop p) := by rw [flatR_append, flatR_append]
                          rw [e1, e2]
                          exact ownsRow_le hown h7
                        · intro q hq
                          rcases List.mem_append.1 hq with hq | hq
                          · rcases List.mem_append.1 hq with hq | hq
                            · exact OK.out q (List.mem_of_mem_take hq)
                            · rw [List.mem_singleton.1 hq]; exact M1.out
                          · exact OK.out q (List.mem_of_mem_drop hq)
                        · exact rise_insert TH.out RI.out HJ.out HJL.out
                        · exact mem_insert p MI.out HMS.out
                        · have e := DL.out; have e2 := TL.out; have e3 := HLK.out; have e4 := HBD.out; have e5 := HLL.out
                          rw [List.length_append, List.length_append, e, e2, List.length_singleton]
                          omega)
                      clear hown hgrow hk VH' VL'
                      go_wp2
                      go_roundw
                      case rel => exact RE.out
                      case measure => simp [intOf]; omega
          · have FN := hid hpz
            go_upto_region 6 with fail
            refine region_vals2 [none, none, none, none, none, none, none, none, none, none, none, none, none, none, none, none, some 0, some 1, some 2, some 3, some 4, some 5, some 6, some 7, some 8, some 9, some 10, none, none, none, none, none, none, none, none, none, none, none, none, none, none, none, none, none, none, none, none, none, none, none, none, none, none, none, none, none] [[(6, none)], [(16, some 0)], [(17, some 1)], [(5, none)], [(3, none)], [(6, none)], [(21, some 5)], [(20, some 4), (22, some 6)], [(23, some 7)], [(19, some 3), (24, some 8)], [(18, some 2), (25, some 9)]] [some 16, some 17, some 18, some 19, some 20, some 21, some 22, some 23, some 24, some 25, some 26] [.int .i64 (p : Int), .bool false, .bool false, undef, undef, undef, undef, undef, undef, undef, .bool false] (fun w' => Hid (Kp Nb W2 w')) (by kernel_rfl) (by kernel_rfl) (by kernel_rfl) ?hS (VFrom.all (n := 11) (by kernel_rfl) ?hstep) ?hend
            case hstep =>
              refine VFrom.cons (VStep.val _ rfl _ rfl (.int .i64 (p : Int)) rfl trivial (fun ev wq hS he hr => ?_)) ?_
              · have r0 : ev (.tmp 6) = .int .i64 (p : Int) := hr (6, none) (by simp); have hk := he.1; clear hr he
                go_simp
              refine VFrom.cons (VStep.val _ rfl _ rfl (.bool false) rfl trivial (fun ev wq hS he hr => ?_)) ?_
              · have r0 : ev (.tmp 16) = .int .i64 (p : Int) := hr (16, some 0) (by simp); have hk := he.1; clear hr he
                have e1 := FN.out
                go_simp
              refine VFrom.cons (VStep.val _ rfl _ rfl (.bool false) rfl trivial (fun ev wq hS he hr => ?_)) ?_
              · have r0 : ev (.tmp 17) = .bool false := hr (17, some 1) (by simp); have hk := he.1; clear hr he
                go_simp
              refine VFrom.cons (VStep.skip _ rfl rfl rfl) ?_
              refine VFrom.cons (VStep.skip _ rfl rfl rfl) ?_
              refine VFrom.cons (VStep.skip _ rfl rfl rfl) ?_
              refine VFrom.cons (VStep.skip _ rfl rfl rfl) ?_
              refine VFrom.cons (VStep.skip _ rfl rfl rfl) ?_
              refine VFrom.cons (VStep.skip _ rfl rfl rfl) ?_
              refine VFrom.cons (VStep.skip _ rfl rfl rfl) ?_
              refine VFrom.cons (VStep.val _ rfl _ rfl (.bool false) rfl trivial (fun ev wq hS he hr => ?_)) ?_
              · have r0 : ev (.tmp 18) = .bool false := hr (18, some 2) (by simp); have r1 : ev (.tmp 25) = undef := hr (25, some 9) (by simp); have hk := he.1; clear hr he
                go_simp
              exact VFrom.nil
            case hS => exact hid (Kp.drew HQ.out)
            case hend =>
              intro w6 h6
              have K6 := h6
              clear h6
              simp only [putAll, List.zip_cons_cons, List.zip_nil_right, List.foldl_cons, List.foldl_nil, Act.put, List.setIfInBounds_toArray, List.set_cons_zero, List.set_cons_succ]
              go_upto_region 8 with fail
              refine region_vals2 [none, none, none, none, none, none, none, none, none, none, none, none, none, none, none, none, none, none, none, none, none, none, none, none, none, none, none, none, none, some 0, some 1, some 2, some 3, some 4, some 5, some 6, some 7, some 8, some 9, some 10, none, none, none, none, none, none, none, none, none, none, none, none, none, none, none, none] [[(6, none)], [(29, some 0)], [(30, some 1)], [(3, none)], [(6, none)], [(33, some 4)], [(32, some 3), (34, some 5)], [(35, some 6)], [(5, none)], [(36, some 7), (37, some 8)], [(31, some 2), (38, some 9)]] [some 29, some 30, some 31, some 32, some 33, some 34, some 35, some 36, some 37, some 38, some 39] [.int .i64 (p : Int), .bool false, .bool false, undef, undef, undef, undef, undef, undef, undef, .bool false] (fun w' => Hid (Kp Nb W2 w')) (by kernel_rfl) (by kernel_rfl) (by kernel_rfl) ?hS (VFrom.all (n := 11) (by kernel_rfl) ?hstep) ?hend
              case hstep =>
                refine VFrom.cons (VStep.val _ rfl _ rfl (.int .i64 (p : Int)) rfl trivial (fun ev wq hS he hr => ?_)) ?_
                · have r0 : ev (.tmp 6) = .int .i64 (p : Int) := hr (6, none) (by simp); have hk := he.1; clear hr he
                  go_simp
                refine VFrom.cons (VStep.val _ rfl _ rfl (.bool false) rfl trivial (fun ev wq hS he hr => ?_)) ?_
                · have r0 : ev (.tmp 29) = .int .i64 (p : Int) := hr (29, some 0) (by simp); have hk := he.1; clear hr he
                  have e1 := FN.out
                  go_simp
                refine VFrom.cons (VStep.val _ rfl _ rfl (.bool false) rfl trivial (fun ev wq hS he hr => ?_)) ?_
                · have r0 : ev (.tmp 30) = .bool false := hr (30, some 1) (by simp); have hk := he.1; clear hr he
                  go_simp
                refine VFrom.cons (VStep.skip _ rfl rfl rfl) ?_
                refine VFrom.cons (VStep.skip _ rfl rfl rfl) ?_
                refine VFrom.cons (VStep.skip _ rfl rfl rfl) ?_
                refine VFrom.cons (VStep.skip _ rfl rfl rfl) ?_
                refine VFrom.cons (VStep.skip _ rfl rfl rfl) ?_
                refine VFrom.cons (VStep.skip _ rfl rfl rfl) ?_
                refine VFrom.cons (VStep.skip _ rfl rfl rfl) ?_
                refine VFrom.cons (VStep.val _ rfl _ rfl (.bool false) rfl trivial (fun ev wq hS he hr => ?_)) ?_
                · have r0 : ev (.tmp 31) = .bool false := hr (31, some 2) (by simp); have r1 : ev (.tmp 38) = undef := hr (38, some 9) (by simp); have hk := he.1; clear hr he
                  go_simp
                exact VFrom.nil
              case hS => exact hid (Kp.drew K6.out)
              case hend =>
                intro w7 h7
                have K7' := h7
                clear h7
                simp only [putAll, List.zip_cons_cons, List.zip_nil_right, List.foldl_cons, List.foldl_nil, Act.put, List.setIfInBounds_toArray, List.set_cons_zero, List.set_cons_succ]
                have HA7 : Hid (w7.ownsRow w.heap.size 24 16 (.slice y3 L d3) out.length (flatR markL out)) := hid (by rw [HLL.out]; exact ownsRow_kp HA2.out K7'.out)
                have HZ7 := hid (HZ.out.kept K7'.out (fun h => h))
                have K7 := hid (HK2.out.trans K7'.out (fun _ _ h => h))
                have HJL : Hid (∀ j, j < p → lexI (markAt out j) z = true) := hid (fun j hj => absurd (Nat.lt_of_le_of_lt (Nat.zero_le j) hj) FN.out)
                have TH := hid (show p ≤ out.length from by have := HPL.out; have := HLL.out; omega)
                obtain ⟨xh, dh, VH, RH⟩ := (rows_owned HA7.out (fun q hq => by rw [markL_length, (OK.out q hq).len])).cutH (z := List.replicate 16 0) Try.underlying22 mark_info p TH.out
                obtain ⟨xl, dl, VL, RL⟩ := (rows_owned HA7.out (fun q hq => by rw [markL_length, (OK.out q hq).len])).cutL (z := List.replicate 16 0) Try.underlying22 mark_info p TH.out
                have HRH := hid RH
                have HRL := hid RL
                have HBD : Hid (L ≤ 100000 ∧ p ≤ L) := hid ⟨by have := HLB.out; omega, HPL.out⟩
                have TL : Hid ((out.take p).length = p) := hid (by rw [List.length_take]; have := TH.out; omega)
                have DL : Hid ((out.drop p).length = L - p) := hid (by rw [List.length_drop, HLL.out])
                have B1 : Hid (0 + (out.take p).length ≤ maxLen ∧ (0 + (out.take p).length) * 16 ≤ 140737488355328) := hid (by rw [TL.out]; unfold maxLen; have := HBD.out; omega)
                have B2 : Hid (p + [z].length ≤ maxLen ∧ (p + [z].length) * 16 ≤ 140737488355328) := hid (by rw [List.length_singleton]; unfold maxLen; have := HBD.out; omega)
                have B3 : Hid (p + 1 + (out.drop p).length ≤ maxLen ∧ (p + 1 + (out.drop p).length) * 16 ≤ 140737488355328) := hid (by rw [DL.out]; unfold maxLen; have := HBD.out; omega)
                obtain ⟨i0, z0, hi, hz0, hz1, hz2, hz3⟩ := mark_info3
                have FT : Hid (∀ q ∈ out.take p, (markL q).length = 16) := hid (fun q hq => by rw [markL_length, (OK.out q (List.mem_of_mem_take hq)).len])
                have FD : Hid (∀ q ∈ out.drop p, (markL q).length = 16) := hid (fun q hq => by rw [markL_length, (OK.out q (List.mem_of_mem_drop hq)).len])
                have VH' := VH; have VL' := VL
                rw [HLL.out] at VL'
                clear VH VL RH RL
                go_wp2_with (at_builtin; refine wpList_append_rows (f := markL) (z := List.replicate 16 0) (c := 16) rfl _ _ 22 rfl w7.heap.size 24 i0 z0 16 Try.underlying22 hi hz0 hz1 hz2 hz3 (by decide) _ 0 [] rfl (World.ownsRow_made w7 #[] 0 (Nat.le_refl _) (Nat.zero_le _) rfl) _ (out.take p) rfl (HRH.out.kept ((Kp.refl Nb w7).alloc _)) FT.out (fun q _ => markL_one q) B1.out.1 B1.out.2 ((Kp.refl Nb w7).alloc _).size ?_)
                intro v9 w9 hown hgrow
                replace hown : w9.ownsRow w7.heap.size 24 16 v9 (p) (flatR markL (out.take p)) := by
                  have e := TL.out
                  rw [List.length_take] at e
                  simpa only [List.length_take, List.length_drop, List.length_singleton, List.length_cons, List.length_nil, e, Nat.zero_add, List.nil_append, List.append_assoc] using hown
                have hk := ((Kp.refl Nb w7).alloc (.cells #[] 24)).grown hgrow (fun k hk h => by simp [Value.ownBlock] at hk; omega)
                have HO9 := hid hown
                have K9 := hid hk
                have HZ9 := hid (HZ7.out.kept hk (fun h => h))
                have S9 := hid hk.size
                have MK9 := hid (make_mark1 z M1.out.len w9)
                have hy := own_shape hown
                clear hown hgrow hk
                obtain ⟨a9, c9, rfl⟩ := hy
                go_wp2_with (first
                  | (refine wpList_load_mid (by rfl) 24 (.tmp 5) (by rfl) N5 0 (by rfl) (markL z) _ (range_of HZ9.out) under_mark rfl (mark_infoL z M1.out.len) ?_)
                  | (refine wpList_val (by rfl) _ _ (exec_buildSlice rfl (qs := #[(0, markV z)]) (by simp [Act.eval, Act.put]) MK9.out) ?_)
                  | (at_builtin; refine wpList_append_rows (f := markL) (z := List.replicate 16 0) (c := 16) rfl _ _ 22 rfl w7.heap.size 24 i0 z0 16 Try.underlying22 hi hz0 hz1 hz2 hz3 (by decide) _ _ _ rfl (ownsRow_kp HO9.out ((Kp.refl Nb w9).alloc _)) _ [z] rfl (rows_one (Blk.new _ _ _)) (fun q hq => by rw [List.mem_singleton.1 hq, markL_length, M1.out.len]) (fun q _ => markL_one q) B2.out.1 B2.out.2 (Nat.le_trans S9.out ((Kp.refl Nb w9).alloc _).size) ?_))
                intro v10 w10 hown hgrow
                replace hown : w10.ownsRow w7.heap.size 24 16 v10 (p + 1) (flatR markL (out.take p) ++ flatR markL [z]) := by
                  have e := TL.out
                  rw [List.length_take] at e
                  simpa only [List.length_take, List.length_drop, List.length_singleton, List.length_cons, List.length_nil, e, Nat.zero_add, List.nil_append, List.append_assoc] using hown
                have hk := (K9.out.alloc (.cells (markL z).toArray 24 (0, 0))).grown hgrow (fun k hk h => by have := (row_cells HO9.out hk).1; omega)
                have HO10 := hid hown
                have K10 := hid hk
                have S10 := hid hk.size
                have hy := own_shape hown
                clear hown hgrow hk
                obtain ⟨a10, c10, rfl⟩ := hy
                go_wp2_with (at_builtin; refine wpList_append_rows (f := markL) (z := List.replicate 16 0) (c := 16) rfl _ _ 22 rfl w7.heap.size 24 i0 z0 16 Try.underlying22 hi hz0 hz1 hz2 hz3 (by decide) _ _ _ rfl HO10.out _ (out.drop p) rfl (by have h := HRL.out.kept K10.out; rw [HLL.out] at h; exact h) FD.out (fun q _ => markL_one q) B3.out.1 B3.out.2 S10.out ?_)
                intro v11 w11 hown hgrow
                replace hown : w11.ownsRow w7.heap.size 24 16 v11 (p + 1 + (out.drop p).length) (flatR markL (out.take p) ++ flatR markL [z] ++ flatR markL (out.drop p)) := by
                  have e := TL.out
                  rw [List.length_take] at e
                  simpa only [List.length_take, List.length_drop, List.length_singleton, List.length_cons, List.length_nil, e, Nat.zero_add, List.nil_append, List.append_assoc] using hown
                have hk := K10.out.grown hgrow (fun k hk h => by have := (row_cells HO10.out hk).1; omega)
                have RE : Hid (MarksR w ms (.int .i64 ((k : Int) + 1)) v11 w11) := hid (by
                  have h7 := K7.out.size
                  refine ⟨k + 1, out.take p ++ [z] ++ out.drop p, by omega, by go_num, hid ?_, hid ?_, hid ?_, hid ?_, hid ?_, hid ((K7.out.trans hk (fun _ _ h => h)))⟩
                  · have e1 : (out.take p ++ [z] ++ out.drop p).length = p + 1 + (out.drop p).length := by rw [List.length_append, List.length_append, TL.out, List.length_singleton]
                    have e2 : flatR markL (out.take p ++ [z] ++ out.drop p) = flatR markL (out.take p) ++ flatR markL [z] ++ flatR markL (out.drop p) := by rw [flatR_append, flatR_append]
                    rw [e1, e2]
                    exact ownsRow_le hown h7
                  · intro q hq
                    rcases List.mem_append.1 hq with hq | hq
                    · rcases List.mem_append.1 hq with hq | hq
                      · exact OK.out q (List.mem_of_mem_take hq)
                      · rw [List.mem_singleton.1 hq]; exact M1.out
                    · exact OK.out q (List.mem_of_mem_drop hq)
                  · exact rise_insert TH.out RI.out HJ.out HJL.out
                  · exact mem_insert p MI.out HMS.out
                  · have e := DL.out; have e2 := TL.out; have e3 := HLK.out; have e4 := HBD.out; have e5 := HLL.out
                    rw [List.length_append, List.length_append, e, e2, List.length_singleton]
                    omega)
                clear hown hgrow hk VH' VL'
                go_wp2
                go_roundw
                case rel => exact RE.out
                case measure => simp [intOf]; omega
    · obtain rfl : k = ms.length := by omega
      have hM := MI.out
      rw [List.take_length] at hM
      have HM := hid hM
      clear hM MI
      go_wp2
      go_ret
      exact ⟨_, out, rfl, mksl_own OK.out HA.out, RI.out, HM.out, HLK.out, HK.out⟩
end
section
open Go.RowKit Go.Shelf
attribute [local go_sem] Oper.semAt_some
theorem wpList_load_gd {P : Program} {d : TypeDesc} {ops : Array Oper} {rest : List Oper} {op : Oper} {a : Act} {w : World} {Q : Exit → Act → World → Prop} (hw : Region.wanted op (yielded ops a.tmps) = true) (ty : TypeId) (x : Operand) (ho : op.op = .load ty x)
    (b o : Nat) (hx : a.eval x = .pointer (some ⟨b, o, none⟩)) (cs : List Value) (hc : w.rangeAt b o cs) (hu : P.underlying ty = some d) (hd : d.isRow = true) (hi : (P.info? ty).map (·.size) = some cs.length)
    (h : wpList P ops Q rest (a.put op.dst (.agg cs.toArray)) w) : wpList P ops Q (op :: rest) a w :=
  wpList_step fun K hK => by rw [if_pos hw]; exact wp_load_mid ty x ho b o hx cs d hc hu hd hi (hK _ _ h)
def pk1 (b : List (List Int)) (one both : Bool) (m : List Int) : Bool := (mhasB b m && both) || (!mhasB b m && one)
def pk2 (a : List (List Int)) (two : Bool) (m : List Int) : Bool := !mhasB a m && two
def PickR1 (w : World) (a : List (List Int)) (p : List Int → Bool) (i u : Value) (wr : World) : Prop := ∃ (k : Nat) (out : List (List Int)), k ≤ a.length ∧ i = .int .i64 k ∧ Hid (wr.ownsRow w.heap.size 24 16 u out.length (flatR markL out)) ∧
  Hid (∀ q ∈ out, MarkOk q) ∧ Hid (∀ m, m ∈ out ↔ m ∈ a.take k ∧ p m = true) ∧ Hid (out.length ≤ k) ∧ Hid (Kp Nb w wr)
def PickR2 (w : World) (n : Nat) (M : List Int → Prop) (b : List (List Int)) (p : List Int → Bool) (i u : Value) (wr : World) : Prop := ∃ (k : Nat) (out : List (List Int)), k ≤ b.length ∧ i = .int .i64 k ∧ Hid (wr.ownsRow w.heap.size 24 16 u out.length (flatR markL out)) ∧
  Hid (∀ q ∈ out, MarkOk q) ∧ Hid (∀ m, m ∈ out ↔ M m ∨ (m ∈ b.take k ∧ p m = true)) ∧ Hid (out.length ≤ n + k) ∧ Hid (Kp Nb w wr)
theorem pick_yes {out a : List (List Int)} {p : List Int → Bool} {k : Nat} {z : List Int} (h : ∀ m, m ∈ out ↔ m ∈ a.take k ∧ p m = true) (hm : ∀ m, m ∈ a.take (k + 1) ↔ m ∈ a.take k ∨ m = z) (hp : p z = true) (m : List Int) : m ∈ out ++ [z] ↔ m ∈ a.take (k + 1) ∧ p m = true := by
  rw [List.mem_append, List.mem_singleton, h, hm]
  constructor
  · rintro (⟨h1, h2⟩ | rfl)
    · exact ⟨.inl h1, h2⟩
    · exact ⟨.inr rfl, hp⟩
  · rintro ⟨h1 | rfl, h2⟩
    · exact .inl ⟨h1, h2⟩
    · exact .inr rfl
theorem pick_no {out a : List (List Int)} {p : List Int → Bool} {k : Nat} {z : List Int} (h : ∀ m, m ∈ out ↔ m ∈ a.take k ∧ p m = true) (hm : ∀ m, m ∈ a.take (k + 1) ↔ m ∈ a.take k ∨ m = z) (hp : p z = false) (m : List Int) : m ∈ out ↔ m ∈ a.take (k + 1) ∧ p m = true := by
  rw [h, hm]
  constructor
  · rintro ⟨h1, h2⟩; exact ⟨.inl h1, h2⟩
  · rintro ⟨h1 | rfl, h2⟩
    · exact ⟨h1, h2⟩
    · rw [hp] at h2; cases h2
theorem pick_yes2 {M : List Int → Prop} {out b : List (List Int)} {p : List Int → Bool} {k : Nat} {z : List Int} (h : ∀ m, m ∈ out ↔ M m ∨ (m ∈ b.take k ∧ p m = true)) (hm : ∀ m, m ∈ b.take (k + 1) ↔ m ∈ b.take k ∨ m = z) (hp : p z = true) (m : List Int) : m ∈ out ++ [z] ↔ M m ∨ (m ∈ b.take (k + 1) ∧ p m = true) := by
  rw [List.mem_append, List.mem_singleton, h, hm]
  constructor
  · rintro ((h1 | ⟨h1, h2⟩) | rfl)
    · exact .inl h1
    · exact .inr ⟨.inl h1, h2⟩
    · exact .inr ⟨.inr rfl, hp⟩
  · rintro (h1 | ⟨h1 | rfl, h2⟩)
    · exact .inl (.inl h1)
    · exact .inl (.inr ⟨h1, h2⟩)
    · exact .inr rfl
theorem pick_no2 {M : List Int → Prop} {out b : List (List Int)} {p : List Int → Bool} {k : Nat} {z : List Int} (h : ∀ m, m ∈ out ↔ M m ∨ (m ∈ b.take k ∧ p m = true)) (hm : ∀ m, m ∈ b.take (k + 1) ↔ m ∈ b.take k ∨ m = z) (hp : p z = false) (m : List Int) : m ∈ out ↔ M m ∨ (m ∈ b.take (k + 1) ∧ p m = true) := by
  rw [h, hm]
  constructor
  · rintro (h1 | ⟨h1, h2⟩)
    · exact .inl h1
    · exact .inr ⟨.inl h1, h2⟩
  · rintro (h1 | ⟨h1 | rfl, h2⟩)
    · exact .inl h1
    · exact .inr ⟨h1, h2⟩
    · rw [hp] at h2; cases h2
set_option maxRecDepth 100000 in
set_option maxHeartbeats 8000000 in
theorem rpick_any (va vb : Value) (a b : List (List Int)) (one two both : Bool) (w : World) (ha : MkSl w va a) (hb : MkSl w vb b) (ra : rightB a = true) (rb : rightB b = true) (la : a.length ≤ 10000) (lb : b.length ≤ 10000) :
    Calls Try.prog 19 #[va, vb, .bool one, .bool two, .bool both] w fun e w' => ∃ v' out, e = .returned v' ∧ MkSl w' v' out ∧ Rise out ∧ (∀ m, m ∈ out ↔ (m ∈ a ∧ pk1 b one both m = true) ∨ (m ∈ b ∧ pk2 a two m = true)) ∧ out.length ≤ a.length + b.length ∧ Kp Nb w w' := by
  obtain ⟨ya, da, rfl⟩ := ha.shape
  obtain ⟨yb, db, rfl⟩ := hb.shape
  have HA0 := hid ha
  have HB0 := hid hb
  have HLA := hid la
  have HLC := hid lb
  have CRA : Hid (∀ wq, Kp Nb w wq → Calls Try.prog 12 #[.slice ya a.length da] wq fun e w' => e = .returned (.bool true) ∧ Kp Nb wq w') := hid (fun wq k => by rw [← ra]; exact rset_any _ a wq (ha.kept k) (by omega))
  have CRB : Hid (∀ wq, Kp Nb w wq → Calls Try.prog 12 #[.slice yb b.length db] wq fun e w' => e = .returned (.bool true) ∧ Kp Nb wq w') := hid (fun wq k => by rw [← rb]; exact rset_any _ b wq (hb.kept k) (by omega))
  have CHB : Hid (∀ wq m, Kp Nb w wq → MarkOk m → Calls Try.prog 17 #[.slice yb b.length db, markV m] wq fun e w' => e = .returned (.bool (mhasB b m)) ∧ Kp Nb wq w') := hid (fun wq m k hm => rhas_any _ b m wq (hb.kept k) hm)
  have CHA : Hid (∀ wq m, Kp Nb w wq → MarkOk m → Calls Try.prog 17 #[.slice ya a.length da, markV m] wq fun e w' => e = .returned (.bool (mhasB a m)) ∧ Kp Nb wq w') := hid (fun wq m k hm => rhas_any _ a m wq (ha.kept k) hm)
  clear ha hb ra rb la lb
  go_enter Try.func19, Try.ntmps19
  go_wp2_with fail
  refine (CRA.out _ (Kp.refl Nb _)).mono ?_
  rintro e w1 ⟨rfl, k1⟩
  go_wp2_with fail
  refine (CRB.out _ k1).mono ?_
  rintro e w2 ⟨rfl, k2⟩
  have K2 := hid (k1.trans k2 (fun _ _ h => h))
  clear k1 k2 CRA CRB
  go_wp2
  go_loopw [26, 11] (PickR1 w a (pk1 b one both)) (fun i _ _ => a.length - (intOf i).toNat)
  case atStart => exact ⟨0, [], by omega, rfl, hid ⟨rfl, .inl ⟨rfl, rfl⟩⟩, hid (fun q hq => by cases hq), hid (fun m => by simp), hid (Nat.le_refl _), K2⟩
  case round =>
    clear K2
    obtain ⟨k, out, hk, rfl, HA, OK, MI, HLK, HK⟩ := hrel
    obtain ⟨y3, d3, rfl⟩ := own_shape HA.out
    by_cases hlt : k < a.length
    · have hC := HA0.out.kept HK.out
      rcases hC.2 with ⟨_, e0⟩ | ⟨blk, off, cap, e1, hc, hm, hcell⟩
      · rw [e0] at hlt
        exact absurd hlt (Nat.not_lt_zero _)
      · injection e1 with e1 e7 e2
        subst e1 e2
        clear e7
        have HR := hid (hcell k hlt)
        have M1 := hid (hC.1 k)
        have HMS := hid (mem_snoc a k hlt)
        unfold maxLen at hm
        generalize markAt a k = z at HR M1 HMS
        have HX := HA0
        obtain ⟨L, hL⟩ : ∃ L, out.length = L := ⟨_, rfl⟩
        have HLL := hid hL
        have HLB : Hid (L ≤ 20000) := hid (by have := HLK.out; have := HLA.out; omega)
        rw [hL] at HA HLK ⊢
        clear hL
        have hz := Blk.new wr 24 (markL (List.replicate 16 0))
        obtain ⟨W2, hW2⟩ : ∃ W, W = (wr.alloc (.cells (markL (List.replicate 16 0)).toArray 24)).setCells wr.heap.size 0 (markL z) := ⟨_, rfl⟩
        have kW : Kp Nb wr W2 := by rw [hW2]; exact Kp.setCells (fun h => absurd h (Nat.lt_irrefl _)) _ 0 _ ((Kp.refl Nb wr).alloc _)
        have TH := hid (mark_there hz (by rw [markL_length]; rfl) M1.out)
        have SI := hid (mark_sized M1.out)
        have ON := hid (all_oneCell_toArray (markL_one z))
        have HZ : Hid (Blk W2 wr.heap.size 24 (markL z)) := hid (by rw [hW2]; exact row_set hz (by rw [markL_length, markL_length, M1.out.len]; rfl))
        have HA2 := hid (ownsRow_kp HA.out kW)
        have HK2 := hid (HK.out.trans kW (fun _ _ h => h))
        have HO2 := hid (HX.out.kept HK2.out)
        clear hz kW hcell hC HA
        go_upto_region 7 with (first
          | (refine wpList_load_mid (by rfl) 24 (.tmp 28) (by rfl) blk (off + k * 16) (by rfl) (markL z) _ HR.out under_mark rfl (mark_infoL z M1.out.len) ?_)
          | (refine wpList_store_mid (by rfl) 24 (.tmp 13) (.tmp 29) (by rfl) wr.heap.size 0 (markL z).toArray (by rfl) (by rfl) TH.out SI.out ON.out ?_))
        rw [show (wr.alloc (.cells #[.int .u8 0, .int .u8 0, .int .u8 0, .int .u8 0, .int .u8 0, .int .u8 0, .int .u8 0, .int .u8 0, .int .u8 0, .int .u8 0, .int .u8 0, .int .u8 0, .int .u8 0, .int .u8 0, .int .u8 0, .int .u8 0] 24)).setCells wr.heap.size 0 (markL z) = W2 from hW2.symm]
        clear hW2 TH SI ON HR
        generalize wr.heap.size = N5 at *
        go_wp2_with (first
          | (refine wpList_load_mid (by rfl) 24 (.tmp 13) (by rfl) N5 0 (by rfl) (markL z) _ (range_of HZ.out) under_mark rfl (mark_infoL z M1.out.len) ?_)
          | (refine wpList_load_gd (by first | rfl | kernel_rfl) 24 (.tmp 13) (by rfl) N5 0 (by rfl) (markL z) (range_of HZ.out) under_mark rfl (mark_infoL z M1.out.len) ?_))
        refine (CHB.out _ z HK2.out M1.out).mono ?_
        rintro e w3 ⟨rfl, k3⟩
        have HK3 := hid (HK2.out.trans k3 (fun _ _ h => h))
        have HZ3 := hid (HZ.out.kept k3 (fun h => h))
        have HA3 := hid (ownsRow_kp HA2.out k3)
        have PE : Hid (pk1 b one both z = ((mhasB b z && both) || (!mhasB b z && one))) := hid rfl
        clear k3 HK2 HZ HA2
        obtain ⟨h, hh⟩ : ∃ h, mhasB b z = h := ⟨_, rfl⟩
        have HH := hid hh
        rw [hh] at PE ⊢
        clear hh
        cases h with
        | true =>
          cases both with
          | true =>
            have PZ : Hid (pk1 b one true z = true) := hid (by rw [PE.out]; rfl)
            have MK9 := hid (make_mark1 z M1.out.len w3)
            obtain ⟨i0, z0, hi, hz0, hz1, hz2, hz3⟩ := mark_info3
            have B2 : Hid (L + [z].length ≤ maxLen ∧ (L + [z].length) * 16 ≤ 140737488355328 ∧ w.heap.size ≤ (w3.alloc (.cells (markL z).toArray 24 (0, 0))).heap.size) := hid (by
              have h1 := HK3.out.size
              have h2 := ((Kp.refl Nb w3).alloc (.cells (markL z).toArray 24 (0, 0))).size
              refine ⟨?_, ?_, Nat.le_trans h1 h2⟩ <;> rw [List.length_singleton]
              · unfold maxLen; have := HLB.out; omega
              · have := HLB.out; omega)
            go_wp2_with (first
              | (refine wpList_load_mid (by rfl) 24 (.tmp 13) (by rfl) N5 0 (by rfl) (markL z) _ (range_of HZ3.out) under_mark rfl (mark_infoL z M1.out.len) ?_)
              | (refine wpList_val (by rfl) _ _ (exec_buildSlice rfl (qs := #[(0, markV z)]) (by simp [Act.eval, Act.put]) MK9.out) ?_)
              | (at_builtin; refine wpList_append_rows (f := markL) (z := List.replicate 16 0) (c := 16) rfl _ _ 22 rfl w.heap.size 24 i0 z0 16 Try.underlying22 hi hz0 hz1 hz2 hz3 (by decide) _ _ _ rfl (ownsRow_kp HA3.out ((Kp.refl Nb _).alloc _)) _ [z] rfl (rows_one (Blk.new _ _ _)) (fun q hq => by rw [List.mem_singleton.1 hq, markL_length, M1.out.len]) (fun q _ => markL_one q) B2.out.1 B2.out.2.1 B2.out.2.2 ?_))
            intro v10 w10 hown hgrow
            replace hown : w10.ownsRow w.heap.size 24 16 v10 (L + 1) (flatR markL out ++ flatR markL [z]) := by
              simpa only [List.length_singleton, List.length_cons, List.length_nil, Nat.zero_add] using hown
            have hk := (HK3.out.alloc (.cells (markL z).toArray 24 (0, 0))).grown hgrow (fun k hk h => by have := (row_cells HA3.out hk).1; omega)
            have HO10 := hid hown
            have K10 := hid hk
            have hy := own_shape hown
            clear hown hgrow hk
            obtain ⟨a10, c10, rfl⟩ := hy
            have RE : Hid (PickR1 w a (pk1 b one true) (.int .i64 ((k : Int) + 1)) (.slice a10 (L + 1) c10) w10) := hid ⟨k + 1, out ++ [z], by omega, by go_num, hid (by rw [List.length_append, HLL.out, flatR_append]; exact HO10.out), hid (fun q hq => by
              rcases List.mem_append.1 hq with hq | hq
              · exact OK.out q hq
              · rw [List.mem_singleton.1 hq]; exact M1.out), hid (pick_yes MI.out HMS.out PZ.out), hid (by rw [List.length_append, HLL.out, List.length_singleton]; have := HLK.out; omega), K10⟩
            go_wp2
            go_roundw
            case rel => exact RE.out
            case measure => simp [intOf]; omega
          | false =>
            have PZ : Hid (pk1 b one false z = false) := hid (by rw [PE.out]; rfl)
            go_wp2_with (first
              | (refine wpList_load_mid (by rfl) 24 (.tmp 13) (by rfl) N5 0 (by rfl) (markL z) _ (range_of HZ3.out) under_mark rfl (mark_infoL z M1.out.len) ?_)
              | (refine wpList_load_gd (by first | rfl | kernel_rfl) 24 (.tmp 13) (by rfl) N5 0 (by rfl) (markL z) (range_of HZ3.out) under_mark rfl (mark_infoL z M1.out.len) ?_))
            refine (CHB.out _ z HK3.out M1.out).mono ?_
            rintro e w4 ⟨rfl, k4⟩
            rw [HH.out]
            have RE : Hid (PickR1 w a (pk1 b one false) (.int .i64 ((k : Int) + 1)) (.slice y3 L d3) w4) := hid ⟨k + 1, out, by omega, by go_num, hid (by rw [HLL.out]; exact ownsRow_kp HA3.out k4), OK, hid (pick_no MI.out HMS.out PZ.out), hid (by rw [HLL.out]; have := HLK.out; omega), hid (HK3.out.trans k4 (fun _ _ h => h))⟩
            clear k4
            go_wp2
            go_roundw
            case rel => exact RE.out
            case measure => simp [intOf]; omega
        | false =>
          go_wp2_with (first
            | (refine wpList_load_mid (by rfl) 24 (.tmp 13) (by rfl) N5 0 (by rfl) (markL z) _ (range_of HZ3.out) under_mark rfl (mark_infoL z M1.out.len) ?_)
            | (refine wpList_load_gd (by first | rfl | kernel_rfl) 24 (.tmp 13) (by rfl) N5 0 (by rfl) (markL z) (range_of HZ3.out) under_mark rfl (mark_infoL z M1.out.len) ?_))
          refine (CHB.out _ z HK3.out M1.out).mono ?_
          rintro e w4 ⟨rfl, k4⟩
          rw [HH.out]
          have HK4 := hid (HK3.out.trans k4 (fun _ _ h => h))
          have HZ4 := hid (HZ3.out.kept k4 (fun h => h))
          have HA4 := hid (ownsRow_kp HA3.out k4)
          clear k4
          cases one with
          | true =>
            have PZ : Hid (pk1 b true both z = true) := hid (by rw [PE.out]; rfl)
            have MK9 := hid (make_mark1 z M1.out.len w4)
            obtain ⟨i0, z0, hi, hz0, hz1, hz2, hz3⟩ := mark_info3
            have B2 : Hid (L + [z].length ≤ maxLen ∧ (L + [z].length) * 16 ≤ 140737488355328 ∧ w.heap.size ≤ (w4.alloc (.cells (markL z).toArray 24 (0, 0))).heap.size) := hid (by
              have h1 := HK4.out.size
              have h2 := ((Kp.refl Nb w4).alloc (.cells (markL z).toArray 24 (0, 0))).size
              refine ⟨?_, ?_, Nat.le_trans h1 h2⟩ <;> rw [List.length_singleton]
              · unfold maxLen; have := HLB.out; omega
              · have := HLB.out; omega)
            go_wp2_with (first
              | (refine wpList_load_mid (by rfl) 24 (.tmp 13) (by rfl) N5 0 (by rfl) (markL z) _ (range_of HZ4.out) under_mark rfl (mark_infoL z M1.out.len) ?_)
              | (refine wpList_val (by rfl) _ _ (exec_buildSlice rfl (qs := #[(0, markV z)]) (by simp [Act.eval, Act.put]) MK9.out) ?_)
              | (at_builtin; refine wpList_append_rows (f := markL) (z := List.replicate 16 0) (c := 16) rfl _ _ 22 rfl w.heap.size 24 i0 z0 16 Try.underlying22 hi hz0 hz1 hz2 hz3 (by decide) _ _ _ rfl (ownsRow_kp HA4.out ((Kp.refl Nb _).alloc _)) _ [z] rfl (rows_one (Blk.new _ _ _)) (fun q hq => by rw [List.mem_singleton.1 hq, markL_length, M1.out.len]) (fun q _ => markL_one q) B2.out.1 B2.out.2.1 B2.out.2.2 ?_))
            intro v10 w10 hown hgrow
            replace hown : w10.ownsRow w.heap.size 24 16 v10 (L + 1) (flatR markL out ++ flatR markL [z]) := by
              simpa only [List.length_singleton, List.length_cons, List.length_nil, Nat.zero_add] using hown
            have hk := (HK4.out.alloc (.cells (markL z).toArray 24 (0, 0))).grown hgrow (fun k hk h => by have := (row_cells HA4.out hk).1; omega)
            have HO10 := hid hown
            have K10 := hid hk
            have hy := own_shape hown
            clear hown hgrow hk
            obtain ⟨a10, c10, rfl⟩ := hy
            have RE : Hid (PickR1 w a (pk1 b true both) (.int .i64 ((k : Int) + 1)) (.slice a10 (L + 1) c10) w10) := hid ⟨k + 1, out ++ [z], by omega, by go_num, hid (by rw [List.length_append, HLL.out, flatR_append]; exact HO10.out), hid (fun q hq => by
              rcases List.mem_append.1 hq with hq | hq
              · exact OK.out q hq
              · rw [List.mem_singleton.1 hq]; exact M1.out), hid (pick_yes MI.out HMS.out PZ.out), hid (by rw [List.length_append, HLL.out, List.length_singleton]; have := HLK.out; omega), K10⟩
            go_wp2
            go_roundw
            case rel => exact RE.out
            case measure => simp [intOf]; omega
          | false =>
            have PZ : Hid (pk1 b false both z = false) := hid (by rw [PE.out]; rfl)
            have RE : Hid (PickR1 w a (pk1 b false both) (.int .i64 ((k : Int) + 1)) (.slice y3 L d3) w4) := hid ⟨k + 1, out, by omega, by go_num, hid (by rw [HLL.out]; exact HA4.out), OK, hid (pick_no MI.out HMS.out PZ.out), hid (by rw [HLL.out]; have := HLK.out; omega), HK4⟩
            go_wp2
            go_roundw
            case rel => exact RE.out
            case measure => simp [intOf]; omega
    · obtain rfl : k = a.length := by omega
      have hM := MI.out
      rw [List.take_length] at hM
      have HM := hid hM
      clear hM MI hlt hk
      go_wp2
      go_loopw [52, 11] (PickR2 w a.length (fun m => m ∈ a ∧ pk1 b one both m = true) b (pk2 a two)) (fun i _ _ => b.length - (intOf i).toNat)
      case atStart => exact ⟨0, out, by omega, rfl, HA, OK, hid (fun m => by rw [HM.out]; simp), hid HLK.out, HK⟩
      case round =>
        clear HA OK HM HLK HK
        obtain ⟨k, out, hk, rfl, HA, OK, MI, HLK, HK⟩ := hrel
        obtain ⟨y3, d3, rfl⟩ := own_shape HA.out
        by_cases hlt : k < b.length
        · have hC := HB0.out.kept HK.out
          rcases hC.2 with ⟨_, e0⟩ | ⟨blk, off, cap, e1, hc, hm, hcell⟩
          · rw [e0] at hlt
            exact absurd hlt (Nat.not_lt_zero _)
          · injection e1 with e1 e7 e2
            subst e1 e2
            clear e7
            have HR := hid (hcell k hlt)
            have M1 := hid (hC.1 k)
            have HMS := hid (mem_snoc b k hlt)
            unfold maxLen at hm
            generalize markAt b k = z at HR M1 HMS
            have HX := HB0
            obtain ⟨L, hL⟩ : ∃ L, out.length = L := ⟨_, rfl⟩
            have HLL := hid hL
            have HLB : Hid (L ≤ 20000) := hid (by have := HLK.out; have := HLA.out; have := HLC.out; omega)
            rw [hL] at HA HLK ⊢
            clear hL
            have hz := Blk.new wr 24 (markL (List.replicate 16 0))
            obtain ⟨W2, hW2⟩ : ∃ W, W = (wr.alloc (.cells (markL (List.replicate 16 0)).toArray 24)).setCells wr.heap.size 0 (markL z) := ⟨_, rfl⟩
            have kW : Kp Nb wr W2 := by rw [hW2]; exact Kp.setCells (fun h => absurd h (Nat.lt_irrefl _)) _ 0 _ ((Kp.refl Nb wr).alloc _)
            have TH := hid (mark_there hz (by rw [markL_length]; rfl) M1.out)
            have SI := hid (mark_sized M1.out)
            have ON := hid (all_oneCell_toArray (markL_one z))
            have HZ : Hid (Blk W2 wr.heap.size 24 (markL z)) := hid (by rw [hW2]; exact row_set hz (by rw [markL_length, markL_length, M1.out.len]; rfl))
            have HA2 := hid (ownsRow_kp HA.out kW)
            have HK2 := hid (HK.out.trans kW (fun _ _ h => h))
            have HO2 := hid (HX.out.kept HK2.out)
            clear hz kW hcell hC HA
            go_upto_region 13 with (first
              | (refine wpList_load_mid (by rfl) 24 (.tmp 54) (by rfl) blk (off + k * 16) (by rfl) (markL z) _ HR.out under_mark rfl (mark_infoL z M1.out.len) ?_)
              | (refine wpList_store_mid (by rfl) 24 (.tmp 15) (.tmp 55) (by rfl) wr.heap.size 0 (markL z).toArray (by rfl) (by rfl) TH.out SI.out ON.out ?_))
            rw [show (wr.alloc (.cells #[.int .u8 0, .int .u8 0, .int .u8 0, .int .u8 0, .int .u8 0, .int .u8 0, .int .u8 0, .int .u8 0, .int .u8 0, .int .u8 0, .int .u8 0, .int .u8 0, .int .u8 0, .int .u8 0, .int .u8 0, .int .u8 0] 24)).setCells wr.heap.size 0 (markL z) = W2 from hW2.symm]
            clear hW2 TH SI ON HR
            generalize wr.heap.size = N5 at *
            go_wp2_with (first
              | (refine wpList_load_mid (by rfl) 24 (.tmp 15) (by rfl) N5 0 (by rfl) (markL z) _ (range_of HZ.out) under_mark rfl (mark_infoL z M1.out.len) ?_)
              | (refine wpList_load_gd (by first | rfl | kernel_rfl) 24 (.tmp 15) (by rfl) N5 0 (by rfl) (markL z) (range_of HZ.out) under_mark rfl (mark_infoL z M1.out.len) ?_))
            refine (CHA.out _ z HK2.out M1.out).mono ?_
            rintro e w3 ⟨rfl, k3⟩
            have HK3 := hid (HK2.out.trans k3 (fun _ _ h => h))
            have HZ3 := hid (HZ.out.kept k3 (fun h => h))
            have HA3 := hid (ownsRow_kp HA2.out k3)
            have PE : Hid (pk2 a two z = (!mhasB a z && two)) := hid rfl
            clear k3 HK2 HZ HA2
            obtain ⟨h, hh⟩ : ∃ h, mhasB a z = h := ⟨_, rfl⟩
            rw [hh] at PE ⊢
            clear hh
            cases h with
            | true =>
              have PZ : Hid (pk2 a two z = false) := hid (by rw [PE.out]; rfl)
              have RE : Hid (PickR2 w a.length (fun m => m ∈ a ∧ pk1 b one both m = true) b (pk2 a two) (.int .i64 ((k : Int) + 1)) (.slice y3 L d3) w3) := hid ⟨k + 1, out, by omega, by go_num, hid (by rw [HLL.out]; exact HA3.out), OK, hid (pick_no2 MI.out HMS.out PZ.out), hid (by rw [HLL.out]; have := HLK.out; omega), HK3⟩
              go_wp2
              go_roundw
              case rel => exact RE.out
              case measure => simp [intOf]; omega
            | false =>
              cases two with
              | false =>
                have PZ : Hid (pk2 a false z = false) := hid (by rw [PE.out]; rfl)
                have RE : Hid (PickR2 w a.length (fun m => m ∈ a ∧ pk1 b one both m = true) b (pk2 a false) (.int .i64 ((k : Int) + 1)) (.slice y3 L d3) w3) := hid ⟨k + 1, out, by omega, by go_num, hid (by rw [HLL.out]; exact HA3.out), OK, hid (pick_no2 MI.out HMS.out PZ.out), hid (by rw [HLL.out]; have := HLK.out; omega), HK3⟩
                go_wp2
                go_roundw
                case rel => exact RE.out
                case measure => simp [intOf]; omega
              | true =>
                have PZ : Hid (pk2 a true z = true) := hid (by rw [PE.out]; rfl)
                have MK9 := hid (make_mark1 z M1.out.len w3)
                obtain ⟨i0, z0, hi, hz0, hz1, hz2, hz3⟩ := mark_info3
                have B2 : Hid (L + [z].length ≤ maxLen ∧ (L + [z].length) * 16 ≤ 140737488355328 ∧ w.heap.size ≤ (w3.alloc (.cells (markL z).toArray 24 (0, 0))).heap.size) := hid (by
                  have h1 := HK3.out.size
                  have h2 := ((Kp.refl Nb w3).alloc (.cells (markL z).toArray 24 (0, 0))).size
                  refine ⟨?_, ?_, Nat.le_trans h1 h2⟩ <;> rw [List.length_singleton]
                  · unfold maxLen; have := HLB.out; omega
                  · have := HLB.out; omega)
                go_wp2_with (first
                  | (refine wpList_load_mid (by rfl) 24 (.tmp 15) (by rfl) N5 0 (by rfl) (markL z) _ (range_of HZ3.out) under_mark rfl (mark_infoL z M1.out.len) ?_)
                  | (refine wpList_val (by rfl) _ _ (exec_buildSlice rfl (qs := #[(0, markV z)]) (by simp [Act.eval, Act.put]) MK9.out) ?_)
                  | (at_builtin; refine wpList_append_rows (f := markL) (z := List.replicate 16 0) (c := 16) rfl _ _ 22 rfl w.heap.size 24 i0 z0 16 Try.underlying22 hi hz0 hz1 hz2 hz3 (by decide) _ _ _ rfl (ownsRow_kp HA3.out ((Kp.refl Nb _).alloc _)) _ [z] rfl (rows_one (Blk.new _ _ _)) (fun q hq => by rw [List.mem_singleton.1 hq, markL_length, M1.out.len]) (fun q _ => markL_one q) B2.out.1 B2.out.2.1 B2.out.2.2 ?_))
                intro v10 w10 hown hgrow
                replace hown : w10.ownsRow w.heap.size 24 16 v10 (L + 1) (flatR markL out ++ flatR markL [z]) := by
                  simpa only [List.length_singleton, List.length_cons, List.length_nil, Nat.zero_add] using hown
                have hk := (HK3.out.alloc (.cells (markL z).toArray 24 (0, 0))).grown hgrow (fun k hk h => by have := (row_cells HA3.out hk).1; omega)
                have HO10 := hid hown
                have K10 := hid hk
                have hy := own_shape hown
                clear hown hgrow hk
                obtain ⟨a10, c10, rfl⟩ := hy
                have RE : Hid (PickR2 w a.length (fun m => m ∈ a ∧ pk1 b one both m = true) b (pk2 a true) (.int .i64 ((k : Int) + 1)) (.slice a10 (L + 1) c10) w10) := hid ⟨k + 1, out ++ [z], by omega, by go_num, hid (by rw [List.length_append, HLL.out, flatR_append]; exact HO10.out), hid (fun q hq => by
                  rcases List.mem_append.1 hq with hq | hq
                  · exact OK.out q hq
                  · rw [List.mem_singleton.1 hq]; exact M1.out), hid (pick_yes2 MI.out HMS.out PZ.out), hid (by rw [List.length_append, HLL.out, List.length_singleton]; have := HLK.out; omega), K10⟩
                go_wp2
                go_roundw
                case rel => exact RE.out
                case measure => simp [intOf]; omega
        · obtain rfl : k = b.length := by omega
          have hM := MI.out
          rw [List.take_length] at hM
          have HM := hid hM
          have HS := hid (mksl_own OK.out HA.out)
          have HLE : Hid (out.length ≤ 100000) := hid (by have := HLK.out; have := HLA.out; have := HLC.out; omega)
          clear hM MI HA hlt hk
          go_wp2_with fail
          refine (rmarks_any _ out _ HS.out HLE.out).mono ?_
          rintro e w9 ⟨v', out', rfl, h1, h2, h3, h4, h5⟩
          have H1 := hid h1
          have H2 := hid h2
          have H3 := hid (fun m => (h3 m).trans (HM.out m))
          have H4 : Hid (out'.length ≤ a.length + b.length) := hid (Nat.le_trans h4 HLK.out)
          have H5 := hid (HK.out.trans h5 (fun _ _ h => h))
          obtain ⟨y9, d9, rfl⟩ := h1.shape
          clear h1 h2 h3 h4 h5
          go_wp2
          go_ret
          exact ⟨_, out', rfl, H1.out, H2.out, H3.out, H4.out, H5.out⟩
end
section
open Go.RowKit
theorem info_byte : (Try.prog.info? 5).map (fun i => (i.zero, i.size, i.bytes)) = some (some (.int .u8 0), 1, 1) := by kernel_rfl
end
section
open Go.RowKit
theorem elem_bytes : Try.prog.underlying 45 = some (.slice (Try.prog.elem 45)) := by
  rw [show Try.prog.elem 45 = 5 from by simp [Program.elem, Try.underlying45]]; exact Try.underlying45
theorem elem_is : Try.prog.elem 45 = 5 := by simp [Program.elem, Try.underlying45]
theorem size_byte (w : World) : (sizeOf 5).run Try.prog w = .ok 1 w := by
  obtain ⟨i0, hi, _, hz1, _⟩ := info_parts info_byte
  simp [Go.sizeOf, typeInfo, hi, hz1]
/-- v[n:] of bytes. -/
theorem BySl.cutL {S : Nat → Prop} {w : World} {v : Value} {zs : List Int} (h : BySl S w v zs) (n : Nat) (hn : n ≤ zs.length) :
    ∃ x c, (∀ W, (Instr.slice 45 v (some (.int .i64 (n : Int))) none none).run Try.prog W = .ok (.slice x (zs.length - n) c) W) ∧ BySl S w (.slice x (zs.length - n) c) (zs.drop n) := by
  obtain ⟨hz, ⟨⟨a, c, rfl⟩, rfl⟩ | ⟨blk, off, cap, rfl, hc, hm, hb, hne⟩⟩ := h
  · have h0 : n = 0 := by simpa using hn
    subst h0
    refine ⟨if c = 0 then a else a.map (·.add (0 * 1)), c - 0, fun W => ?_, fun i => by simp, .inl ⟨⟨_, _, rfl⟩, rfl⟩⟩
    rw [run_slice_l W _ _ _ _ elem_bytes .i64 _ (by omega) (by omega), elem_is, size_byte]
    rfl
  · refine ⟨if cap = n then some ⟨blk, off, none⟩ else some ⟨blk, off + n, none⟩, cap - n, fun W => ?_, hz.drop n, ?_⟩
    · rw [run_slice_l W _ _ _ _ elem_bytes .i64 _ (by omega) (by omega), elem_is, size_byte]
      show Result.ok (sliced _ _ _ _ _) W = _
      unfold sliced
      rw [Int.toNat_natCast, Nat.mul_one]
      congr 2
      show (if cap = n then some (⟨blk, off, none⟩ : Addr) else some (Addr.add ⟨blk, off, none⟩ n)) = _
      rw [show Addr.add ⟨blk, off, none⟩ n = ⟨blk, off + n, none⟩ from by unfold Addr.add; split <;> simp_all]
    · have hl : (zs.drop n).length = zs.length - n := List.length_drop
      by_cases hcap : cap = n
      · refine .inl ⟨⟨if cap = n then some ⟨blk, off, none⟩ else some ⟨blk, off + n, none⟩, cap - n, ?_⟩, List.drop_eq_nil_of_le (by omega)⟩
        rw [show zs.length - n = 0 from by omega]
      · refine .inr ⟨blk, off + n, cap - n, ?_, by omega, by omega, fun i hi => ?_, fun hp => hne (by omega)⟩
        · rw [if_neg hcap, hl]
        · rw [List.getElem?_drop, Nat.add_assoc]
          exact hb (n + i) (by omega)
/-- v[:n] of bytes. -/
theorem BySl.cutH {S : Nat → Prop} {w : World} {v : Value} {zs : List Int} (h : BySl S w v zs) (n : Nat) (hn : n ≤ zs.length) :
    ∃ x c, (∀ W, (Instr.slice 45 v none (some (.int .i64 (n : Int))) none).run Try.prog W = .ok (.slice x n c) W) ∧ BySl S w (.slice x n c) (zs.take n) := by
  obtain ⟨hz, ⟨⟨a, c, rfl⟩, rfl⟩ | ⟨blk, off, cap, rfl, hc, hm, hb, hne⟩⟩ := h
  · have h0 : n = 0 := by simpa using hn
    subst h0
    refine ⟨if c = 0 then a else a.map (·.add (0 * 1)), c - 0, fun W => ?_, fun i => by simp, .inl ⟨⟨_, _, rfl⟩, rfl⟩⟩
    rw [run_slice_h W _ _ _ _ elem_bytes .i64 _ (by omega) (by omega), elem_is, size_byte]
    rfl
  · refine ⟨some ⟨blk, off, none⟩, cap, fun W => ?_, hz.take n, ?_⟩
    · rw [run_slice_h W _ _ _ _ elem_bytes .i64 _ (by omega) (by omega), elem_is, size_byte]
      show Result.ok (sliced _ _ _ _ _) W = _
      unfold sliced
      congr 2
      split <;> simp [Addr.add]
    · have hl : (zs.take n).length = n := by rw [List.length_take]; omega
      refine .inr ⟨blk, off, cap, ?_, by omega, hm, fun i hi => ?_, fun hp => hne (by omega)⟩
      · rw [hl]
      · rw [hl] at hi
        rw [List.getElem?_take_of_lt hi]
        exact hb i (by omega)
end
section
open Go.RowKit
theorem mark_info3L : ∃ i z, Try.prog.info? 24 = some i ∧ i.zero = some z ∧ i.size = 16 ∧ i.bytes = 16 ∧ z.cells.size = 16 := by
  have h : ((Try.prog.info? 24).map fun i => (i.zero.map fun z => z.cells.size, i.size, i.bytes)) = some (some 16, 16, 16) := by kernel_rfl
  obtain ⟨i, hi, h2⟩ := Option.map_eq_some_iff.1 h
  simp only [Prod.mk.injEq] at h2
  obtain ⟨z, hz, hz2⟩ := Option.map_eq_some_iff.1 h2.1
  exact ⟨i, z, hi, hz, h2.2.1, h2.2.2, hz2⟩
theorem mk_len {ms : List (List Int)} (h : ∀ i, MarkOk (markAt ms i)) : ∀ q ∈ ms, q.length = 16 := fun q hq => by
  obtain ⟨i, hi, rfl⟩ := List.mem_iff_getElem.1 hq
  have := (h i).len
  unfold markAt at this
  rw [List.getElem?_eq_getElem hi] at this
  exact this
theorem mk_rows {w : World} {v : Value} {ms : List (List Int)} (h : MkSl w v ms) : RowsSl markL (List.replicate 16 0) 16 w v ms := h.2
theorem markL_one' (m : List Int) : ∀ u ∈ markL m, u.oneCell' = true := fun u hu => by
  obtain ⟨z, _, rfl⟩ := List.mem_map.1 hu
  rfl
set_option maxHeartbeats 800000 in
theorem mclone_any (v : Value) (ms : List (List Int)) (w : World) (h : MkSl w v ms) (hbig : ms.length ≤ 100000) :
    Calls Try.prog 36 #[v] w fun e w' => ∃ v', e = .returned v' ∧ MkSl w' v' ms ∧ (∀ g, v'.ownBlock = some g → w.heap.size ≤ g ∧ g < w'.heap.size) ∧ Kp Nb w w' := by
  have q22 : ∀ (w : World) (a : Option Addr) (n c n' c' : Nat), (binOp .eql 22 (.slice a n c) (.slice none n' c')).run Try.prog w = .ok (.bool a.isNone) w := fun w a n c n' c' => Lib.run_eql_slice_nil w _ _ a n c n' c' Try.underlying22
  have HO := hid h.1
  have HR := hid (mk_rows h)
  have HLN := hid (mk_len h.1)
  obtain ⟨y, d, rfl⟩ := h.shape
  obtain ⟨n, hn⟩ : ∃ n, ms.length = n := ⟨_, rfl⟩
  rw [hn] at HR hbig ⊢
  have HN := hid hn
  have HB := hid hbig
  clear hn h
  cases y with
  | none =>
    have h0 : ms = [] := by
      rcases HR.out with ⟨-, h0⟩ | ⟨blk, off, cap, e, -⟩
      · exact h0
      · injection e with e; cases e
    subst h0
    go_enter Try.func36, Try.ntmps36
    go_wp2
    go_ret
    exact ⟨_, rfl, ⟨HO.out, .inl ⟨⟨_, _, rfl⟩, rfl⟩⟩, fun g hg => by simp [Value.ownBlock] at hg, Kp.refl _ _⟩
  | some a =>
    obtain ⟨i0, z, hi, hz0, hz1, hz2, hz3⟩ := mark_info3L
    have FR : Hid (RowsSl markL (List.replicate 16 0) 16 (w.alloc (.cells #[] 24 (0, 0))) (.slice (some a) n d) ms) := hid (HR.out.kept ((Kp.refl Nb w).alloc _))
    have FL : Hid (∀ q ∈ ms, (markL q).length = 16) := hid (fun q hq => by rw [markL_length]; exact HLN.out q hq)
    have LL : Hid (0 + ms.length ≤ maxLen ∧ (0 + ms.length) * 16 ≤ 140737488355328) := hid (by rw [HN.out]; unfold maxLen; omega)
    clear HR
    go_enter Try.func36, Try.ntmps36
    go_wp2_with (at_builtin; refine wpList_append_rows (f := markL) (z := List.replicate 16 0) (c := 16) rfl _ _ 22 rfl w.heap.size 24 i0 z 16 Try.underlying22 hi hz0 hz1 hz2 hz3 (by decide) _ 0 [] rfl (World.ownsRow_made w #[] 0 (Nat.le_refl _) (Nat.zero_le _) rfl) _ ms rfl FR.out FL.out (fun q _ => markL_one' q) LL.out.1 LL.out.2 ((Kp.refl Nb w).alloc _).size ?_)
    intro v9 w9 hown hgrow
    have hk := hid (((Kp.refl Nb w).alloc (.cells #[] 24)).grown hgrow (fun k hk h => by simp [Value.ownBlock] at hk; omega))
    have HO9 : Hid (w9.ownsRow w.heap.size 24 16 v9 ms.length (flatR markL ms)) := hid (by simpa only [Nat.zero_add, List.nil_append] using hown)
    have RS : Hid (MkSl w9 v9 ms) := hid ⟨HO.out, rows_owned HO9.out FL.out⟩
    have OW : Hid (∀ g, v9.ownBlock = some g → w.heap.size ≤ g ∧ g < w9.heap.size) := hid (fun g hg => by obtain ⟨h1, o, ho, -⟩ := row_cells HO9.out hg; exact ⟨h1, (Array.getElem?_eq_some_iff.1 ho).1⟩)
    obtain ⟨y9, c9, rfl⟩ := own_shape HO9.out
    clear hown hgrow HO9
    go_wp2
    go_ret
    exact ⟨_, rfl, RS.out, OW.out, hk.out⟩
theorem MkSl.keptV {S : Nat → Prop} {w w' : World} {v : Value} {ms : List (List Int)} (h : MkSl w v ms) (k : Kp S w w') (hS : ∀ g, v.ownBlock = some g → ¬ S g) : MkSl w' v ms := by
  refine ⟨h.1, ?_⟩
  rcases h.2 with h | ⟨blk, off, cap, rfl, hc, hm, hr⟩
  · exact .inl h
  · exact .inr ⟨blk, off, cap, rfl, hc, hm, fun i hi j u hu => k.cell (hr i hi j u hu) (hS blk rfl)⟩
end

end Go.Proofs.Ytijlmfmpfjjlpaa
