/-
  Layer 22: the walks of Sent, New, Clone, Payload. Conditions: rows of 64 bits.
-/
import Derived.Test.YtjipcmhknikcgaaDoorLgC
namespace Go.Proofs.YtjipcmhknikcgaaDoor
open Go.RowKit

theorem payF_rng {a b : RwQ} (ha : RwOk a) (hb : RwOk b) : u64R (plusS a.2 b.2) := plusS_ok ha.2 hb.2
set_option maxRecDepth 100000 in
set_option maxHeartbeats 4000000 in
theorem sent_any (B : Nat) (rs : List RwQ) (kk n : Int) (w : World) (h : LgAt w B rs) (hn : 0 ≤ n ∧ n < 9223372036854775808) : Calls Tryd.prog 12 #[.pointer (some ⟨B, 0, none⟩), .int .i64 kk, .int .i64 n] w fun e w' => e = .returned (.bool (knd kk)) ∧ LgAt w' B (setK rs kk (sumR (rowOf rs kk) (1, n))) ∧ Kp (Jb B) w w' := by
  have H := hid h
  obtain ⟨q, hq⟩ : ∃ q, rowOf rs kk = q := ⟨_, rfl⟩
  have OQ : Hid (RwOk q) := hid (by rw [← hq]; exact rowOf_ok h.ok kk)
  have CR := hid (row_any B rs kk w h)
  rw [hq] at CR ⊢
  have ON : Hid (RwOk (1, n)) := hid (by unfold RwOk u64R mx64; exact ⟨⟨by show (0 : Int) ≤ 1; decide, by show (1 : Int) ≤ 18446744073709551615; decide⟩, hn.1, by show n ≤ 18446744073709551615; omega⟩)
  have hw : IntKind.u64.wrap n = n := by
    have e : IntKind.u64.wrap n = n % 18446744073709551616 := by simp [IntKind.wrap, IntKind.bits, IntKind.signed]
    rw [e]; omega
  have hn0 : ¬ n < 0 := by omega
  have hn1 := hn.1
  obtain ⟨z, hz⟩ : ∃ z, sumR q (1, n) = z := ⟨_, rfl⟩
  have OZ : Hid (RwOk z) := hid (by rw [← hz]; exact sumR_ok OQ.out ON.out)
  have CS : Hid (∀ w, Calls Tryd.prog 23 #[rV q, rV (1, n)] w fun e w' => e = .returned (rV z) ∧ Kp Nb w w') := hid (fun w => by rw [← hz]; exact lsum_any q (1, n) w OQ.out ON.out)
  rw [hz]
  have BR : Hid (∀ w, (Instr.build 29 #[(0, .int .u64 1), (1, .int .u64 n)]).run Tryd.prog w = .ok (rV (1, n)) w) := hid (fun w => build_row 1 n w)
  clear h hq hz hn
  go_enter Tryd.func12, Tryd.ntmps12
  go_wp2_with fail
  refine CR.out.mono ?_
  rintro e w1 ⟨rfl, k1⟩
  have K1 := hid k1
  have H1 := hid (H.out.kept k1 (fun h => h))
  clear k1
  go_wp2_with (refine wpList_val (by rfl) _ _ (exec_build (qs := #[(0, .int .u64 1), (1, .int .u64 n)]) rfl rfl (BR.out _)) ?_)
  refine (CS.out _).mono ?_
  rintro e w2 ⟨rfl, k2⟩
  have K2 : Hid (Kp Nb w w2) := hid (K1.out.trans k2 (fun _ _ h => h))
  have CW := hid (with_any B rs kk z w2 (H1.out.kept k2 (fun h => h)) OZ.out)
  clear k2 K1 H1
  go_wp2_with fail
  refine CW.out.mono ?_
  rintro e w3 ⟨rfl, h3, k3⟩
  have H3 := hid h3
  have K3 : Hid (Kp (Jb B) w w3) := hid ((K2.out.mono (S' := Jb B) (fun _ _ h => h.elim)).trans k3 (fun _ _ h => h))
  clear h3 k3 K2
  go_wp2
  go_ret
  exact ⟨rfl, H3.out, K3.out⟩
theorem field_1 (a b : Int) (w : World) : (Instr.field 29 (.agg #[.int .u64 a, .int .u64 b]) 1).run Tryd.prog w = .ok (.int .u64 b) w := by kernel_rfl
theorem exec_field {P : Program} {ev : Operand → Value} {o : Oper} {T : TypeId} {x : Operand} {i : Nat} {v u : Value} {w : World} (ho : o.op = .field T x i) (hx : ev x = v) (hl : (Instr.field T v i).run P w = .ok u w) : (execOp ev o).run P w = .ok (.value u) w := by
  unfold execOp
  simp only [ho, hx, Sem.run_bind, Sem.run_pure, Result.andThen_ok, hl]
def zero14 : List RwQ := List.replicate 14 (0, 0)
theorem build_lg0 (w : World) : (Instr.build 57 #[]).run Tryd.prog w = .ok (.agg (flatR rL zero14).toArray) w := by kernel_rfl
set_option maxRecDepth 100000 in
set_option maxHeartbeats 4000000 in
theorem lgnew_any (w : World) : Calls Tryd.prog 7 #[] w fun e w' => ∃ B, e = .returned (.pointer (some ⟨B, 0, none⟩)) ∧ LgAt w' B zero14 ∧ w.heap.size ≤ B ∧ Kp Nb w w' := by
  obtain ⟨Z, hZ⟩ : ∃ Z, flatR rL zero14 = Z := ⟨_, rfl⟩
  have BZ : Hid (∀ w, (Instr.build 57 #[]).run Tryd.prog w = .ok (.agg Z.toArray) w) := hid (fun w => by rw [← hZ]; exact build_lg0 w)
  have HB : Hid (LgAt (w.alloc (.cells Z.toArray 57)) w.heap.size zero14) := hid ⟨by rw [hZ]; exact Blk.new w _ _, rfl, fun q hq => by rw [List.eq_of_mem_replicate hq]; exact row0_ok⟩
  have HK : Hid (Kp Nb w (w.alloc (.cells Z.toArray 57))) := hid ((Kp.refl Nb w).alloc _)
  clear hZ
  go_enter Tryd.func7, Tryd.ntmps7
  go_wp2_with (refine wpList_val (by rfl) _ _ (exec_build rfl (by simp) (BZ.out _)) ?_)
  go_ret
  exact ⟨_, rfl, HB.out, Nat.le_refl _, HK.out⟩
set_option maxRecDepth 100000 in
set_option maxHeartbeats 4000000 in
theorem pay_any (B : Nat) (rs : List RwQ) (w : World) (h : LgAt w B rs) : Calls Tryd.prog 19 #[.pointer (some ⟨B, 0, none⟩)] w fun e w' => e = .returned (.int .u64 (plusS (rowAt rs 9).2 (rowAt rs 10).2)) ∧ Kp Nb w w' := by
  have H := hid h
  obtain ⟨a, ha⟩ : ∃ q, rowAt rs 9 = q := ⟨_, rfl⟩
  obtain ⟨b, hb⟩ : ∃ q, rowAt rs 10 = q := ⟨_, rfl⟩
  have OA : Hid (RwOk a) := hid (by rw [← ha]; exact rowAt_ok h.ok 9)
  have OB : Hid (RwOk b) := hid (by rw [← hb]; exact rowAt_ok h.ok 10)
  have CA := hid (row_any B rs 10 w h)
  rw [show rowOf rs 10 = a from ha] at CA
  obtain ⟨a1, a2⟩ := a
  obtain ⟨b1, b2⟩ := b
  replace CA : Hid (Calls Tryd.prog 13 #[.pointer (some ⟨B, 0, none⟩), .int .i64 10] w fun e w' => e = .returned (.agg #[.int .u64 a1, .int .u64 a2]) ∧ Kp Nb w w') := CA
  have CB : Hid (∀ w', Kp Nb w w' → Calls Tryd.prog 13 #[.pointer (some ⟨B, 0, none⟩), .int .i64 11] w' fun e w'' => e = .returned (.agg #[.int .u64 b1, .int .u64 b2]) ∧ Kp Nb w' w'') := hid (fun w' k => by
    have h2 := row_any B rs 11 w' (H.out.kept k (fun h => h))
    rw [show rowOf rs 11 = (b1, b2) from hb] at h2
    exact h2)
  rw [ha, hb]
  clear h ha hb
  go_enter Tryd.func19, Tryd.ntmps19
  go_wp2_with fail
  refine CA.out.mono ?_
  rintro e w1 ⟨rfl, k1⟩
  have K1 := hid k1
  clear k1
  go_wp2_with (refine wpList_val (by rfl) _ _ (exec_field rfl rfl (field_1 a1 a2 _)) ?_)
  refine (CB.out _ K1.out).mono ?_
  rintro e w2 ⟨rfl, k2⟩
  have K2 : Hid (Kp Nb w w2) := hid (K1.out.trans k2 (fun _ _ h => h))
  clear k2
  go_wp2_with (refine wpList_val (by rfl) _ _ (exec_field rfl rfl (field_1 b1 b2 _)) ?_)
  refine (plus_any a2 b2 _ OA.out.2 OB.out.2).mono ?_
  rintro e w3 ⟨rfl, rfl⟩
  go_wp2
  go_ret
  exact ⟨rfl, K2.out⟩

end Go.Proofs.YtjipcmhknikcgaaDoor
