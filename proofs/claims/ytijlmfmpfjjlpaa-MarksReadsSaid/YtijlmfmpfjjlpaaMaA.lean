/-
  Layer 9: Compare, and what the order of marks comes to. Conditions: marks of 16 bytes.
-/
import Derived.Test.YtijlmfmpfjjlpaaMkit
import Derived.Test.YtijlmfmpfjjlpaaShelf
import Derived.Lib.BytesEntry
import Derived.Lib.Bytealg
import Derived.WalkMore
namespace Go.Proofs.Ytijlmfmpfjjlpaa
open Go.RowKit Go.Shelf Go.Sort

theorem lexI_irr : ∀ (x : List Int), lexI x x = false
  | [] => rfl
  | a :: x => by simp [lexI, lexI_irr x]
def cmpM (x y : List Int) : Int := if lexI x y then -1 else if lexI y x then 1 else 0
theorem cmp_bytes : ∀ (x y : List Int), IsBytes x → IsBytes y → Lib.compareBytes (x.map fun z => UInt8.ofNat z.toNat) (y.map fun z => UInt8.ofNat z.toNat) = cmpM x y
  | [], [], _, _ => rfl
  | [], _ :: _, _, _ => rfl
  | _ :: _, [], _, _ => rfl
  | a :: x, b :: y, hx, hy => by
    have ih := cmp_bytes x y hx.tail hy.tail
    have e1 := byte_lt a b hx.head hy.head
    have e2 := byte_lt b a hy.head hx.head
    show (if UInt8.ofNat a.toNat < UInt8.ofNat b.toNat then (-1 : Int) else if UInt8.ofNat b.toNat < UInt8.ofNat a.toNat then 1 else Lib.compareBytes _ _) = _
    rw [ih]
    unfold cmpM
    simp only [lexI]
    by_cases h1 : a < b
    · rw [if_pos (e1.2 h1)]
      simp [h1]
    · rw [if_neg (fun h => h1 (e1.1 h))]
      by_cases h2 : b < a
      · rw [if_pos (e2.2 h2)]
        have h3 : (a == b) = false := beq_eq_false_iff_ne.2 (by omega)
        simp [h1, h2, h3]
      · rw [if_neg (fun h => h2 (e2.1 h))]
        obtain rfl : a = b := by omega
        simp
theorem load_bytes {P : Program} {w : World} {B : Nat} {m : List Int} (h : ∀ i, i < m.length → w.cell? ⟨B, i, none⟩ = some (.int .u8 (m[i]?.getD 0))) : (Extern.Bytes.bytesOf (.slice (some ⟨B, 0, none⟩) m.length 16)).run P w = .ok (st m) w := by
  have hl := Lib.run_loadBytesX (P := P) w m ⟨B, 0, none⟩ .empty (fun j x hj => by
    have hjl : j < m.length := (List.getElem?_eq_some_iff.1 hj).1
    have e : (⟨B, 0, none⟩ : Addr).add j = ⟨B, j, none⟩ := by unfold Addr.add; split <;> simp_all
    rw [e, h j hjl, hj]
    rfl)
  have he : (⟨ByteArray.empty.data ++ (Lib.bytesOf m).toArray⟩ : ByteArray) = st m := by
    apply ByteArray.ext
    show (#[] : Array UInt8) ++ (Lib.bytesOf m).toArray = (m.map fun z => UInt8.ofNat z.toNat).toArray
    simp [Lib.bytesOf]
  rw [he] at hl
  exact hl
theorem st_data (m : List Int) : (st m).data.toList = m.map fun z => UInt8.ofNat z.toNat := by simp [st]
/-- The model's entry at two marks in memory. -/
theorem run_cmp {w : World} {A B t s : Nat} {a b : List Int} (hA : Blk w A t (markL a)) (hB : Blk w B s (markL b)) (ha : MarkOk a) (hb : MarkOk b) :
    (callFunc 55 #[.slice (some ⟨A, 0, none⟩) 16 16, .slice (some ⟨B, 0, none⟩) 16 16]).run Try.prog w = .ok (.value (.int .i64 (cmpM a b))) w := by
  rw [run_callFunc_extern Try.func55 (by kernel_rfl) (by kernel_rfl) (by kernel_rfl) (e := Extern.BytealgCompare.compare) (by kernel_rfl)]
  have h1 := load_bytes (P := Try.prog) (fun i hi => (hA.cell i).trans (markL_get a i hi))
  have h2 := load_bytes (P := Try.prog) (fun i hi => (hB.cell i).trans (markL_get b i hi))
  rw [ha.len] at h1
  rw [hb.len] at h2
  have h3 : (Extern.BytealgCompare.compare #[.slice (some ⟨A, 0, none⟩) 16 16, .slice (some ⟨B, 0, none⟩) 16 16]).run Try.prog w = .ok (.int .i64 (cmpM a b)) w := by
    change Sem.run Try.prog (do pure (goInt (Extern.BytealgCompare.cmp (← Extern.Bytes.bytesOf (.slice (some ⟨A, 0, none⟩) 16 16)) (← Extern.Bytes.bytesOf (.slice (some ⟨B, 0, none⟩) 16 16))))) w = _
    simp only [Sem.run_bind, Sem.run_pure, h1, h2, Result.andThen]
    rw [Lib.cmp_eq, st_data, st_data, cmp_bytes a b ha.bytes hb.bytes]
    rfl
  rw [h3]
  rfl
theorem exec_call_val {P : Program} {ev : Operand → Value} {o : Oper} {f : FuncId} {x y : Operand} {ts : Array TypeId} {a b v : Value} {w : World} (ho : o.op = .call { callee := .value (.func f), args := #[x, y], argTypes := ts }) (hf : ev (.func f) = .func (.func f) #[] #[]) (hx : ev x = a) (hy : ev y = b)
    (hr : (callFunc f #[a, b]).run P w = .ok (.value v) w) : (execOp ev o).run P w = .ok (.value v) w := by
  simp [execOp, ho, resolve, invoke, Deferred.ofValue, hf, hx, hy, hr]
set_option maxRecDepth 100000 in
set_option maxHeartbeats 2000000 in
theorem bcmp_any {A B t s : Nat} {a b : List Int} (w : World) (hA : Blk w A t (markL a)) (hB : Blk w B s (markL b)) (ha : MarkOk a) (hb : MarkOk b) :
    Calls Try.prog 35 #[.slice (some ⟨A, 0, none⟩) 16 16, .slice (some ⟨B, 0, none⟩) 16 16] w fun e w' => e = .returned (.int .i64 (cmpM a b)) ∧ w = w' := by
  obtain ⟨r, hr⟩ : ∃ r, cmpM a b = r := ⟨_, rfl⟩
  have HR := run_cmp hA hB ha hb
  rw [hr] at HR ⊢
  have HRC := hid HR
  clear hA hB HR hr ha hb
  go_enter Try.func35, Try.ntmps35
  go_wp2_with (refine wpList_val (by rfl) _ _ (exec_call_val rfl rfl rfl rfl HRC.out) ?_)
  go_ret
  exact ⟨rfl, rfl⟩
set_option maxRecDepth 100000 in
set_option maxHeartbeats 4000000 in
theorem cmpg_any (a b : List Int) (w : World) (ha : MarkOk a) (hb : MarkOk b) : Calls Try.prog 9 #[markV a, markV b] w fun e w' => e = .returned (.int .i64 (cmpM a b)) ∧ ∃ q os, w' = grow (w.drewN q) os := by
  obtain ⟨N, hN⟩ : ∃ N, w.heap.size = N := ⟨_, rfl⟩
  obtain ⟨W, hW⟩ : ∃ W, W = (w.alloc (.cells (markL a).toArray 24)).alloc (.cells (markL b).toArray 24) := ⟨_, rfl⟩
  have HA : Blk W N 24 (markL a) := by rw [hW, ← hN]; exact (Blk.new w _ _).alloc _
  have HB : Blk W (N + 1) 24 (markL b) := by
    have h := Blk.new (w.alloc (.cells (markL a).toArray 24)) 24 (markL b)
    simp only [World.size_alloc] at h
    rw [hW, ← hN]
    exact h
  obtain ⟨r, hr⟩ : ∃ r, cmpM a b = r := ⟨_, rfl⟩
  have CB : Hid (∀ wx, Kp Nb W wx → Calls Try.prog 35 #[.slice (some ⟨N, 0, none⟩) 16 16, .slice (some ⟨N + 1, 0, none⟩) 16 16] wx fun e w' => e = .returned (.int .i64 r) ∧ wx = w') := hid (fun wx k => by rw [← hr]; exact bcmp_any wx (HA.kept k (fun h => h)) (HB.kept k (fun h => h)) ha hb)
  have HG : Hid (∃ q os, W.drew = grow (w.drewN q) os) := hid ⟨1, _, by rw [hW, alloc_eq_grow, alloc_eq_grow, grow_grow]; rfl⟩
  rw [hr]
  clear HA HB hr ha hb
  go_enter Try.func9, Try.ntmps9
  go_upto_region 1 with fail
  rw [show (w.alloc (.cells (markL a).toArray 24)).alloc (.cells (markL b).toArray 24) = W from hW.symm]
  clear hW hN
  go_region_with (go_at_call 35; refine (CB.out _ (Kp.refl Nb W).drew).mono ?_; rintro e w' ⟨rfl, rfl⟩)
  all_goals
    go_wp2
    go_ret
    exact ⟨rfl, HG.out⟩
theorem kp_grow {w w' : World} (h : ∃ q os, w' = grow (w.drewN q) os) : Kp Nb w w' := by
  obtain ⟨q, os, rfl⟩ := h
  exact ⟨rfl, rfl, rfl, by simp [grow], fun i hi _ => by
    show (w.heap ++ os)[i]? = w.heap[i]?
    rw [Array.getElem?_append_left hi]⟩
theorem cmpg_kp (a b : List Int) (w : World) (ha : MarkOk a) (hb : MarkOk b) : Calls Try.prog 9 #[markV a, markV b] w fun e w' => e = .returned (.int .i64 (cmpM a b)) ∧ Kp Nb w w' :=
  (cmpg_any a b w ha hb).mono fun _ _ ⟨h1, h2⟩ => ⟨h1, kp_grow h2⟩
theorem cmpM_lt (a b : List Int) : cmpM a b < 0 ↔ lexI a b = true := by
  unfold cmpM
  by_cases h : lexI a b = true
  · simp [h]
  · simp only [h]
    by_cases h2 : lexI b a = true <;> simp [h2]
theorem cmpM_ge (a b : List Int) : cmpM a b ≥ 0 ↔ lexI a b = false := by
  have := cmpM_lt a b
  cases h : lexI a b with
  | true => rw [h] at this; simp at this ⊢; omega
  | false => rw [h] at this; simp at this ⊢; omega
theorem cmpM_eq (a b : List Int) : cmpM a b = 0 ↔ a = b := by
  unfold cmpM
  constructor
  · intro h
    cases h1 : lexI a b with
    | true => rw [h1] at h; simp at h
    | false =>
      cases h2 : lexI b a with
      | true => rw [h1, h2] at h; simp at h
      | false => exact lexI_tri a b h1 h2
  · rintro rfl
    rw [show lexI a a = false from lexI_irr a]
    rfl

end Go.Proofs.Ytijlmfmpfjjlpaa
