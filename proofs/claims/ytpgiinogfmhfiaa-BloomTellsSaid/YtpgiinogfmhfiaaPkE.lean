/-
  Lists of bytes as strings: which stands ahead. Plain facts. No condition.
  Marks in order: the walk of the reference's Less; two marks compared. Conditions: marks are what their kind holds. (Printed by gen_mk.py.)
  Marks in order: walks of the references' Has and Right. Conditions: marks are what their kind holds. (Printed by gen_mk.py.)
-/
import Derived.Test.YtpgiinogfmhfiaaJoined
import Derived.Test.YtpgiinogfmhfiaaRefP
import Derived.Test.YtpgiinogfmhfiaaIbA
import Derived.Test.YtpgiinogfmhfiaaIbC
namespace Go.Proofs.Ytpgiinogfmhfiaa
open Go.RowKit

/-- Which list of bytes stands ahead. -/
def lexI : List Int → List Int → Bool
  | _, [] => false
  | [], _ :: _ => true
  | a :: x, b :: y => decide (a < b) || (a == b && lexI x y)

theorem st_list (xs : List Int) : (st xs).toList = xs.map fun z => UInt8.ofNat z.toNat := ByteArray.toList_mk _
theorem byte_lt (a b : Int) (ha : 0 ≤ a ∧ a < 256) (hb : 0 ≤ b ∧ b < 256) : (UInt8.ofNat a.toNat < UInt8.ofNat b.toNat) ↔ a < b := by
  rw [UInt8.lt_iff_toNat_lt, UInt8.toNat_ofNat', UInt8.toNat_ofNat']
  omega
theorem byte_eq (a b : Int) (ha : 0 ≤ a ∧ a < 256) (hb : 0 ≤ b ∧ b < 256) : (UInt8.ofNat a.toNat = UInt8.ofNat b.toNat) ↔ a = b := by
  rw [← UInt8.toNat_inj, UInt8.toNat_ofNat', UInt8.toNat_ofNat']
  omega
theorem lex_st : ∀ (xs ys : List Int), IsBytes xs → IsBytes ys → Op.bytesLess (xs.map fun z => UInt8.ofNat z.toNat) (ys.map fun z => UInt8.ofNat z.toNat) = lexI xs ys
  | [], [], _, _ => rfl
  | [], _ :: _, _, _ => rfl
  | _ :: _, [], _, _ => rfl
  | a :: x, b :: y, hx, hy => by
    have ih := lex_st x y hx.tail hy.tail
    have e1 := byte_lt a b hx.head hy.head
    have e2 := byte_eq a b hx.head hy.head
    show (decide (UInt8.ofNat a.toNat < UInt8.ofNat b.toNat) || (UInt8.ofNat a.toNat == UInt8.ofNat b.toNat && Op.bytesLess _ _)) = (decide (a < b) || (a == b && lexI x y))
    rw [ih, decide_eq_decide.2 e1]
    congr 2
    rw [Bool.eq_iff_iff, beq_iff_eq, beq_iff_eq]
    exact e2
theorem st_lt (xs ys : List Int) (hx : IsBytes xs) (hy : IsBytes ys) : Op.bytesLess (st xs).toList (st ys).toList = lexI xs ys := by rw [st_list, st_list]; exact lex_st xs ys hx hy
theorem map_eq : ∀ (xs ys : List Int), IsBytes xs → IsBytes ys → (xs.map (fun z => UInt8.ofNat z.toNat) = ys.map (fun z => UInt8.ofNat z.toNat)) → xs = ys
  | [], [], _, _, _ => rfl
  | [], _ :: _, _, _, h => by simp at h
  | _ :: _, [], _, _, h => by simp at h
  | a :: x, b :: y, hx, hy, h => by
    rw [List.map_cons, List.map_cons, List.cons.injEq] at h
    rw [(byte_eq a b hx.head hy.head).1 h.1, map_eq x y hx.tail hy.tail h.2]
theorem st_beq (xs ys : List Int) (hx : IsBytes xs) (hy : IsBytes ys) : ((st xs).toList == (st ys).toList) = decide (xs = ys) := by
  rw [st_list, st_list]
  by_cases h : xs = ys
  · subst h; simp
  · rw [decide_eq_false h, beq_eq_false_iff_ne]
    exact fun e => h (map_eq xs ys hx hy e)
theorem lexI_irrefl : ∀ (x : List Int), lexI x x = false
  | [] => rfl
  | a :: x => by rw [lexI, lexI_irrefl x, decide_eq_false (Int.lt_irrefl a), Bool.and_false, Bool.or_false]
theorem lexI_trans : ∀ (x y z : List Int), lexI x y = true → lexI y z = true → lexI x z = true
  | _, [], _, h, _ => by cases ‹List Int› <;> simp [lexI] at h
  | [], _ :: _, [], _, h => by simp [lexI] at h
  | [], _ :: _, _ :: _, _, _ => rfl
  | _ :: _, _ :: _, [], _, h => by simp [lexI] at h
  | a :: x, b :: y, c :: z, h1, h2 => by
    simp only [lexI, Bool.or_eq_true, decide_eq_true_eq, Bool.and_eq_true, beq_iff_eq] at h1 h2 ⊢
    rcases h1 with h1 | ⟨rfl, h1⟩
    · rcases h2 with h2 | ⟨rfl, h2⟩
      · exact .inl (by omega)
      · exact .inl h1
    · rcases h2 with h2 | ⟨rfl, h2⟩
      · exact .inl h2
      · exact .inr ⟨rfl, lexI_trans x y z h1 h2⟩
theorem lexI_tri : ∀ (x y : List Int), lexI x y = false → lexI y x = false → x = y
  | [], [], _, _ => rfl
  | [], _ :: _, h, _ => by simp [lexI] at h
  | _ :: _, [], _, h => by simp [lexI] at h
  | a :: x, b :: y, h1, h2 => by
    simp only [lexI, Bool.or_eq_false_iff, decide_eq_false_iff_not, Bool.and_eq_false_iff, beq_eq_false_iff_ne] at h1 h2
    have e : a = b := by omega
    subst e
    rw [lexI_tri x y (h1.2.resolve_left fun h => h rfl) (h2.2.resolve_left fun h => h rfl)]

end Go.Proofs.Ytpgiinogfmhfiaa

namespace Go.Proofs.Ytpgiinogfmhfiaa
open Go.RowKit

theorem eq_marks (zs ys : List Int) (hz : zs.length = 16) (hy : ys.length = 16) (w : World) : Sem.run Try.prog (Op.equalIn 10000 24 (markV zs) (markV ys)) w = .ok (decide (zs = ys)) w := run_mark_eqD 9998 zs ys hz hy w
theorem exec_eqMark {ev : Operand → Value} {o : Oper} {x y : Operand} {t' : TypeId} {xs ys : Array Value} {b : Bool} {w : World} (ho : o.op = .binOp .eql 24 x y t') (hx : ev x = .agg xs) (hy : ev y = .agg ys)
    (h : Sem.run Try.prog (Op.equal 24 (.agg xs) (.agg ys)) w = .ok b w) : (execOp ev o).run Try.prog w = .ok (.value (.bool b)) w := by
  have h1 : Sem.run Try.prog (eqGuard .eql 24 x y (.agg xs) (.agg ys)) w = .ok () w := by go_simp
  have h2 : Sem.run Try.prog (binOp .eql 24 (.agg xs) (.agg ys)) w = .ok (.bool b) w := by
    show Sem.run Try.prog (do pure (Value.bool (← Op.equal 24 (.agg xs) (.agg ys)))) w = _
    simp only [Sem.run_bind, Sem.run_pure, Result.andThen_ok, h]
  unfold execOp
  simp only [ho, hx, hy, Sem.run_bind, Sem.run_pure, Result.andThen_ok, h1, h2]


end Go.Proofs.Ytpgiinogfmhfiaa

namespace Go.Proofs.Ytpgiinogfmhfiaa
open Go.RowKit

/-- Rising, each once. -/
def Rise (ms : List (List Int)) : Prop := ∀ i j, i < j → j < ms.length → lexI (markAt ms i) (markAt ms j) = true
def rightB (ms : List (List Int)) : Bool := (List.range (ms.length - 1)).all fun j => lexI (markAt ms j) (markAt ms (j + 1))
theorem rightB_of {ms : List (List Int)} (h : ∀ j, j + 1 < ms.length → lexI (markAt ms j) (markAt ms (j + 1)) = true) : rightB ms = true := by
  unfold rightB
  rw [List.all_eq_true]
  intro j hj
  exact h j (by have := List.mem_range.1 hj; omega)
theorem rightB_at {ms : List (List Int)} (h : rightB ms = true) (j : Nat) (hj : j + 1 < ms.length) : lexI (markAt ms j) (markAt ms (j + 1)) = true := by
  unfold rightB at h
  rw [List.all_eq_true] at h
  exact h j (List.mem_range.2 (by omega))
theorem rise_of {ms : List (List Int)} (h : rightB ms = true) : Rise ms := by
  intro i j hij
  obtain ⟨d, rfl⟩ : ∃ d, j = i + 1 + d := ⟨j - i - 1, by omega⟩
  clear hij
  induction d with
  | zero => exact fun hj => rightB_at h i hj
  | succ d ih => exact fun hj => lexI_trans _ _ _ (ih (by omega)) (rightB_at h (i + 1 + d) hj)
theorem right_rise {ms : List (List Int)} (h : Rise ms) : rightB ms = true := rightB_of fun j hj => h j (j + 1) (by omega) hj
theorem rightB_false {ms : List (List Int)} (j : Nat) (hj : j + 1 < ms.length) (h : lexI (markAt ms j) (markAt ms (j + 1)) = false) : rightB ms = false := by
  cases e : rightB ms with
  | false => rfl
  | true => rw [rightB_at e j hj] at h; cases h
theorem markAt_mem {ms : List (List Int)} {i : Nat} (h : i < ms.length) : markAt ms i ∈ ms := by
  unfold markAt
  rw [List.getElem?_eq_getElem h]
  exact List.getElem_mem h
theorem mem_markAt {ms : List (List Int)} {m : List Int} (h : m ∈ ms) : ∃ i, i < ms.length ∧ markAt ms i = m := by
  obtain ⟨i, hi, rfl⟩ := List.mem_iff_getElem.1 h
  exact ⟨i, hi, by unfold markAt; rw [List.getElem?_eq_getElem hi]; rfl⟩
theorem MkSl.ok {w : World} {v : Value} {ms : List (List Int)} (h : MkSl w v ms) : ∀ m ∈ ms, MarkOk m := fun m hm => by
  obtain ⟨i, _, rfl⟩ := mem_markAt hm
  exact h.1 i
def mhasB (ms : List (List Int)) (m : List Int) : Bool := decide (m ∈ ms)
def HasR (w : World) (B : Nat) (ms : List (List Int)) (m : List Int) (i : Value) (wr : World) : Prop := ∃ k : Nat, k ≤ ms.length ∧ i = .int .i64 k ∧ Hid (∀ j, j < k → markAt ms j ≠ m) ∧ Hid (Blk wr B 24 (markL m)) ∧ Hid (Kp Nb w wr)

set_option maxRecDepth 100000 in
set_option maxHeartbeats 2000000 in
theorem rhas_any (v : Value) (ms : List (List Int)) (m : List Int) (w : World) (hs : MkSl w v ms) (hm : MarkOk m) :
    Calls Try.prog 28 #[v, markV m] w fun e w' => e = .returned (.bool (mhasB ms m)) ∧ Kp Nb w w' := by
  obtain ⟨y, d, rfl⟩ := hs.shape
  obtain ⟨N, hN⟩ : ∃ N, N = w.heap.size := ⟨_, rfl⟩
  obtain ⟨W, hW⟩ : ∃ W, W = w.alloc (.cells (markL m).toArray 24) := ⟨_, rfl⟩
  have H3 : Hid (Blk W N 24 (markL m)) := hid (by rw [hW, hN]; exact Blk.new w _ _)
  have KW : Hid (Kp Nb w W) := hid (by rw [hW]; exact (Kp.refl Nb w).alloc _)
  have HS := hid hs
  have HM := hid hm
  clear hs hm
  go_enter Try.func28, Try.ntmps28
  go_upto_region 2 with fail
  rw [show w.alloc (.cells (markL m).toArray 24) = W from hW.symm, ← hN]
  clear hW hN
  go_loopw [9] (HasR w N ms m) (fun i _ => ms.length - (intOf i).toNat)
  case atStart => exact ⟨0, by omega, rfl, hid (fun j hj => absurd hj (Nat.not_lt_zero _)), H3, KW⟩
  case round =>
    clear H3 KW
    obtain ⟨k, hk, rfl, HE, HB, HK⟩ := hrel
    by_cases hlt : k < ms.length
    · have hC := HS.out.kept HK.out
      rcases hC.2 with ⟨_, e0⟩ | ⟨blk, off, cap, e1, hc, hx, hcell⟩
      · rw [e0] at hlt
        exact absurd hlt (Nat.not_lt_zero _)
      · injection e1 with e1 _ e2
        subst e1 e2
        have HR := hid (hcell k hlt)
        have M1 := hid (hC.1 k)
        unfold maxLen at hx
        have HQ : Hid (markAt ms k = m → mhasB ms m = true) := hid (fun h => decide_eq_true (h ▸ markAt_mem hlt))
        have HP : Hid (markAt ms k ≠ m → ∀ j, j < k + 1 → markAt ms j ≠ m) := hid (fun h j hj => by
          rcases Nat.lt_or_ge j k with h' | h'
          · exact HE.out j h'
          · have e : j = k := by omega
            rw [e]; exact h)
        have EQ := hid (eq_marks (markAt ms k) m M1.out.len HM.out.len)
        generalize markAt ms k = z at HR M1 HQ HP EQ
        obtain ⟨b, hb⟩ : ∃ b, decide (z = m) = b := ⟨_, rfl⟩
        rw [hb] at EQ
        have HB' := hid hb
        have hz := Blk.new wr 24 (markL (List.replicate 16 0))
        obtain ⟨W2, hW2⟩ : ∃ W, W = (wr.alloc (.cells (markL (List.replicate 16 0)).toArray 24)).setCells wr.heap.size 0 (markL z) := ⟨_, rfl⟩
        have kW : Kp Nb wr W2 := by rw [hW2]; exact Kp.setCells (fun h => absurd h (Nat.lt_irrefl _)) _ 0 _ ((Kp.refl Nb wr).alloc _)
        have TH := hid (mark_there hz (by rw [markL_length]; rfl) M1.out)
        have SI := hid (mark_sized M1.out)
        have ON := hid (all_oneCell_toArray (markL_one z))
        have HZ : Hid (Blk W2 wr.heap.size 24 (markL z)) := hid (by rw [hW2]; exact row_set hz (by rw [markL_length, markL_length, M1.out.len]; rfl))
        have HB1 := hid (HB.out.kept kW (fun h => h))
        have HK1 := hid (HK.out.trans kW (fun _ _ h => h))
        clear hz kW hcell hC hb HE
        go_upto_region 4 with (first
          | (refine wpList_load_mid (by rfl) 24 (.tmp 11) (by rfl) blk (off + k * 16) (by rfl) (markL z) _ HR.out under_mark rfl (mark_infoL z M1.out.len) ?_)
          | (refine wpList_store_mid (by rfl) 24 (.tmp 6) (.tmp 12) (by rfl) wr.heap.size 0 (markL z).toArray (by rfl) (by rfl) TH.out SI.out ON.out ?_))
        rw [show (wr.alloc (.cells #[.int .u8 0, .int .u8 0, .int .u8 0, .int .u8 0, .int .u8 0, .int .u8 0, .int .u8 0, .int .u8 0, .int .u8 0, .int .u8 0, .int .u8 0, .int .u8 0, .int .u8 0, .int .u8 0, .int .u8 0, .int .u8 0] 24)).setCells wr.heap.size 0 (markL z) = W2 from hW2.symm]
        clear hW2 TH SI ON
        cases b with
        | true =>
          go_wp2_with (first
            | (refine wpList_load_mid (by rfl) 24 (.tmp 6) (by rfl) wr.heap.size 0 (by rfl) (markL z) _ (range_of HZ.out) under_mark rfl (mark_infoL z M1.out.len) ?_)
            | (refine wpList_load_mid (by rfl) 24 (.tmp 3) (by rfl) N 0 (by rfl) (markL m) _ (range_of HB1.out) under_mark rfl (mark_infoL m HM.out.len) ?_)
            | (refine wpList_val (by rfl) (.bool true) _ (exec_eqMark rfl (by rfl) (by rfl) (EQ.out _)) ?_))
          go_ret
          exact ⟨by rw [HQ.out (of_decide_eq_true HB'.out)]; rfl, HK1.out⟩
        | false =>
          go_wp2_with (first
            | (refine wpList_load_mid (by rfl) 24 (.tmp 6) (by rfl) wr.heap.size 0 (by rfl) (markL z) _ (range_of HZ.out) under_mark rfl (mark_infoL z M1.out.len) ?_)
            | (refine wpList_load_mid (by rfl) 24 (.tmp 3) (by rfl) N 0 (by rfl) (markL m) _ (range_of HB1.out) under_mark rfl (mark_infoL m HM.out.len) ?_)
            | (refine wpList_val (by rfl) (.bool false) _ (exec_eqMark rfl (by rfl) (by rfl) (EQ.out _)) ?_))
          go_roundw
          case rel => exact ⟨k + 1, by omega, by go_num, hid (HP.out (of_decide_eq_false HB'.out)), HB1, HK1⟩
          case measure => simp [intOf]; omega
    · obtain rfl : k = ms.length := by omega
      have HF : Hid (mhasB ms m = false) := hid (decide_eq_false (fun h => by
        obtain ⟨i, hi, e⟩ := mem_markAt h
        exact HE.out i hi e))
      clear HE
      go_wp2
      go_ret
      exact ⟨by rw [HF.out]; rfl, HK.out⟩

def RightR (w : World) (ms : List (List Int)) (i : Value) (wr : World) : Prop := ∃ k : Nat, 1 ≤ k ∧ k ≤ ms.length + 1 ∧ i = .int .i64 k ∧ Hid (∀ j, j + 1 < k → lexI (markAt ms j) (markAt ms (j + 1)) = true) ∧ Hid (Kp Nb w wr)

end Go.Proofs.Ytpgiinogfmhfiaa
