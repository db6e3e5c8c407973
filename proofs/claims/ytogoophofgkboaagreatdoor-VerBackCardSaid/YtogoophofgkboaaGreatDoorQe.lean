/-
  Of the texts DtN, DtO, DtS, OpenDt, DtAl, OpenDe, DtT what is used. No condition but what each says.
-/
import Derived.Test.YtogoophofgkboaaGreatDoorQd
import Derived.Lib.SmallJoins
import Derived.Test.YtogoophofgkboaaGreatDoorQa
import Derived.Test.YtogoophofgkboaaGreatDoorRows
import Derived.Handed
import Derived.LaidMore
import Derived.Lay
import Derived.Stop.Joined
import Derived.Lib.LaidTab
namespace Go.Proofs.YtogoophofgkboaaGreatDoor
section
open Go.RowKit
theorem str_zc : ∃ i z, Tryz.prog.info? 9 = some i ∧ i.zero = some z ∧ i.size = 1 ∧ i.bytes = 16 ∧ z.cells = #[.string ⟨#[]⟩] := by
  have h : ((Tryz.prog.info? 9).map fun i => (i.zero.map fun z => z.cells, i.size, i.bytes)) = some (some #[.string ⟨#[]⟩], 1, 16) := by kernel_rfl
  obtain ⟨i, hi, h2⟩ := Option.map_eq_some_iff.1 h
  simp only [Prod.mk.injEq] at h2
  obtain ⟨z, hz, hz2⟩ := Option.map_eq_some_iff.1 h2.1
  exact ⟨i, z, hi, hz, h2.2.1, h2.2.2, hz2⟩
theorem made_strs (n : Nat) : (madeCells #[Value.string ⟨#[]⟩] (n * 1)).toList = List.replicate n (Value.string ⟨#[]⟩) := by
  apply List.ext_getElem?
  intro j
  rcases Nat.lt_or_ge j n with h | h
  · rw [List.getElem?_replicate, if_pos h, Array.getElem?_toList]
    unfold madeCells
    rw [Array.getElem?_map, Array.getElem?_range, if_pos (by omega), Option.map_some]
    simp [Nat.mod_one]
  · rw [List.getElem?_eq_none (by rw [Array.length_toList, size_madeCells]; omega), List.getElem?_eq_none (by rw [List.length_replicate]; exact h)]
theorem make_strs (w : World) (n : Nat) (hn : n ≤ 100000) : (Instr.makeSlice 103 (.int .i64 (n : Int)) (.int .i64 (n : Int))).run Tryz.prog w = .ok (.slice (some ⟨w.heap.size, 0, none⟩) n n) (w.alloc (.cells (List.replicate n (Value.string ⟨#[]⟩)).toArray 9 (0, 0))) := by
  obtain ⟨i, z, h1, h2, h3, h4, h5⟩ := str_zc
  have h := run_make (P := Tryz.prog) w _ _ i z Tryz.underlying103 h1 h2 .i64 .i64 n n (by omega) (Int.le_refl _) (by rw [h4]; omega) (by omega)
  rw [Int.toNat_natCast, h3, h5, ← Array.toArray_toList (xs := madeCells _ _), made_strs] at h
  exact h
theorem exec_mksliceD {P : Program} {ev : Operand → Value} {o : Oper} {T : TypeId} {x y : Operand} {v v2 r : Value} {w w' : World} (ho : o.op = .makeSlice T x y) (hx : ev x = v) (hy : ev y = v2) (hl : (Instr.makeSlice T v v2).run P w = .ok r w') : (execOp ev o).run P w = .ok (.value r) w' := by
  unfold execOp
  simp only [ho, hx, hy, Sem.run_bind, Sem.run_pure, Result.andThen_ok, hl]
def txV (q : RunQ) : Value := .string (bs (textR q))
def stL (c : List RunQ) (k : Nat) : List Value := (c.take k).map txV ++ List.replicate (c.length - k) (.string ⟨#[]⟩)
theorem set_midL {α : Type} (A B : List α) (x v : α) : (A ++ x :: B).set A.length v = A ++ v :: B := by
  induction A with
  | nil => rfl
  | cons a A ih => simp [ih]
theorem stL_mid (c : List RunQ) (k : Nat) (hk : k < c.length) : stL c k = (c.take k).map txV ++ Value.string ⟨#[]⟩ :: List.replicate (c.length - (k + 1)) (.string ⟨#[]⟩) := by
  unfold stL
  rw [show c.length - k = (c.length - (k + 1)) + 1 by omega, List.replicate_succ]
theorem stL_len (c : List RunQ) (k : Nat) (hk : k < c.length) : ((c.take k).map txV).length = k := by
  rw [List.length_map, List.length_take]; omega
theorem stL_get (c : List RunQ) (k : Nat) (hk : k < c.length) : (stL c k)[k]? = some (.string ⟨#[]⟩) := by
  rw [stL_mid c k hk, List.getElem?_append_right (by rw [stL_len c k hk]; exact Nat.le_refl _), stL_len c k hk, Nat.sub_self]
  rfl
theorem stL_set (c : List RunQ) (k : Nat) (hk : k < c.length) : (stL c k).set k (txV (runAt c k)) = stL c (k + 1) := by
  have h := set_midL ((c.take k).map txV) (List.replicate (c.length - (k + 1)) (Value.string ⟨#[]⟩)) (.string ⟨#[]⟩) (txV (runAt c k))
  rw [stL_len c k hk] at h
  rw [stL_mid c k hk, h]
  unfold stL
  rw [take_snocR c k hk, List.map_append, List.append_assoc]
  rfl
theorem textR_len (q : RunQ) (h : RunOk q) : (textR q).length ≤ 77 := by
  have h1 := itoa_len q.1 h.1
  have h2 := itoa_len q.2.1 h.2.1
  have h3 := itoa_len q.2.2 h.2.2
  unfold textR
  simp only [List.length_append, List.length_singleton]
  split
  · simp only [List.length_append, List.length_singleton]; omega
  · simp only [List.length_nil]; omega
theorem tail_len (sep : List UInt8) : ∀ (xs : List (List UInt8)), (∀ x ∈ xs, x.length ≤ 77) → (Lib.joinTail sep xs).length ≤ xs.length * (sep.length + 77)
  | [], _ => by simp [Lib.joinTail]
  | x :: xs, h => by
    have ih := tail_len sep xs (fun y hy => h y (by simp [hy]))
    have h1 := h x (by simp)
    unfold Lib.joinTail at ih ⊢
    rw [List.map_cons, List.flatten_cons, List.length_append, List.length_append, List.length_cons, Nat.succ_mul]
    omega
theorem join_len (sep : List UInt8) (xs : List (List UInt8)) (h : ∀ x ∈ xs, x.length ≤ 77) : (Lib.join xs sep).length ≤ xs.length * (sep.length + 77) := by
  cases xs with
  | nil => simp [Lib.join_nil]
  | cons x xs =>
    have h1 := h x (by simp)
    have h2 := tail_len sep xs (fun y hy => h y (by simp [hy]))
    rw [Lib.join_cons, List.length_append, List.length_cons, Nat.succ_mul]
    omega
/-- A clock's text. -/
def textC (c : List RunQ) : List UInt8 := if rightC c then (if c.length = 0 then [45] else Lib.join (c.map textR) [32]) else []
theorem kp_below {w w' : World} (h : Below w.heap.size w w') : Kp Nb w w' := ⟨h.os, h.tape, h.output, h.size, fun k hk _ => h.block k hk⟩
def TxR (W : World) (N : Nat) (c : List RunQ) (i : Value) (wr : World) : Prop := ∃ k : Nat, k ≤ c.length ∧ i = .int .i64 k ∧ Hid (Blk wr N 9 (stL c k)) ∧ Hid (Kp (Jb N) W wr)
set_option maxRecDepth 100000 in
set_option maxHeartbeats 4000000 in
theorem dtext_any (v : Value) (c : List RunQ) (w : World) (hs : ClSl w v c) (hbig : c.length ≤ 100000) (ht : Tab w) : Calls Tryz.prog 78 #[v] w fun e w' => e = .returned (.string (bs (textC c))) ∧ Kp Nb w w' := by
  have CR := hid (dright_any v c w hs (by omega))
  have HSA := hid hs
  have HTB := hid ht
  obtain ⟨y, dc, rfl⟩ := hs.shape
  obtain ⟨L, hL⟩ : ∃ L, c.length = L := ⟨_, rfl⟩
  have HLE := hid hL
  rw [hL] at CR HSA hbig ⊢
  have HBG := hid hbig
  obtain ⟨b, hb⟩ : ∃ b, rightC c = b := ⟨_, rfl⟩
  have HRC := hid hb
  rw [hb] at CR
  obtain ⟨R, hR⟩ : ∃ R, bs (textC c) = R := ⟨_, rfl⟩
  have HR0 := hid hR
  rw [hR]
  clear hs ht hL hb hR hbig
  cases b with
  | false =>
    have HE : Hid (R = ⟨#[]⟩) := hid (by rw [← HR0.out]; unfold textC; rw [HRC.out]; rfl)
    go_enter Tryz.func78, Tryz.ntmps78
    go_wp2_with (go_at_call 45; refine CR.out.mono ?_; rintro r w1 ⟨rfl, k1⟩; have K1 := hid k1; clear k1)
    go_ret
    exact ⟨by rw [HE.out]; rfl, K1.out⟩
  | true =>
    by_cases h0 : L = 0
    · subst h0
      have HE : Hid (R = bs [45]) := hid (by rw [← HR0.out]; unfold textC; rw [HRC.out, HLE.out]; rfl)
      go_enter Tryz.func78, Tryz.ntmps78
      go_wp2_with (go_at_call 45; refine CR.out.mono ?_; rintro r w1 ⟨rfl, k1⟩; have K1 := hid k1; clear k1)
      go_ret
      exact ⟨by rw [HE.out]; rfl, K1.out⟩
    · have HE : Hid (R = bs (Lib.join (c.map textR) [32])) := hid (by rw [← HR0.out]; unfold textC; rw [HRC.out, HLE.out, if_neg h0]; rfl)
      have HOKS : Hid (∀ q ∈ c, RunOk q) := hid (HSA.out.ok)
      have hq : ¬ (L : Int) = 0 := by omega
      have HL0 := hid h0
      clear h0 HR0
      go_enter Tryz.func78, Tryz.ntmps78
      go_upto_region 5 with (go_at_call 45; refine CR.out.mono ?_; rintro r w1 ⟨rfl, k1⟩; have K1 := hid k1; clear k1)
      obtain ⟨N, hN⟩ : ∃ N, w1.heap.size = N := ⟨_, rfl⟩
      have MK := make_strs w1 L HBG.out
      rw [hN] at MK
      obtain ⟨W, hW⟩ : ∃ W, w1.alloc (.cells (List.replicate L (Value.string ⟨#[]⟩)).toArray 9 (0, 0)) = W := ⟨_, rfl⟩
      rw [hW] at MK
      have HC : Hid (Blk W N 9 (stL c 0)) := hid (by
        have h := Blk.new w1 9 (List.replicate L (Value.string ⟨#[]⟩))
        rw [← hW, ← hN]
        have e : stL c 0 = List.replicate L (Value.string ⟨#[]⟩) := by unfold stL; rw [HLE.out]; rfl
        rw [e]
        exact h)
      have KW1 : Hid (Kp Nb w W) := hid (by rw [← hW]; exact K1.out.alloc _)
      have LN : Hid (w.heap.size ≤ N) := hid (by rw [← hN]; exact K1.out.size)
      have S0 : Hid (Kp (Jb N) W W) := hid (Kp.refl _ _)
      clear hN hW hq
      go_wp2_with (refine wpList_val (by rfl) _ _ (exec_mksliceD rfl rfl rfl MK) ?_)
      go_loopw [17] (TxR W N c) (fun i _ => L - (intOf i).toNat)
      case atStart => exact ⟨0, Nat.zero_le _, rfl, HC, S0⟩
      case round =>
        clear HC S0 MK
        obtain ⟨k, hk, rfl, HO, KO⟩ := hrel
        rw [HLE.out] at hk
        have HKW : Hid (Kp Nb w wr) := hid (KW1.out.trans KO.out (fun i hi h => by have h' : i = N := h; have := LN.out; omega))
        by_cases hlt : k < L
        · have HLT := hid hlt
          obtain ⟨blk, off, cap, e1, hc, hm, hcell⟩ := cl_shape (HSA.out.kept HKW.out) (by intro h; have := HLE.out; rw [h, List.length_nil] at this; omega)
          rw [HLE.out] at e1 hc hcell
          injection e1 with e1 _ e2
          subst e1 e2
          have HR := hid (hcell k hlt)
          obtain ⟨⟨qn, qf, qt⟩, hq⟩ : ∃ q, runAt c k = q := ⟨_, rfl⟩
          have HOK := HSA.out.1 k
          rw [hq] at HR HOK
          have HQ := hid hq
          obtain ⟨M, hM⟩ : ∃ M, wr.heap.size = M := ⟨_, rfl⟩
          obtain ⟨W2, hW2⟩ : ∃ W, W = (wr.alloc (.cells (runL (0, 0, 0)).toArray 38)).setCells M 0 (runL (qn, qf, qt)) := ⟨_, rfl⟩
          have hz := Blk.new wr 38 (runL (0, 0, 0))
          rw [hM] at hz
          have KW : Hid (Kp Nb wr W2) := hid (by rw [hW2]; exact Kp.setCells (fun h => absurd h (by omega)) _ 0 _ ((Kp.refl Nb wr).alloc _))
          have HMW : Hid (wr.heap.size = M) := hid hM
          have TH := hid (run_there (q := (qn, qf, qt)) hz)
          have HZ : Hid (Blk W2 M 38 (runL (qn, qf, qt))) := hid (by rw [hW2]; exact row_set hz rfl)
          have HK2 := hid (HKW.out.trans KW.out (fun _ _ h => h))
          unfold maxLen at hm
          obtain ⟨fs, hfs⟩ := under_run
          clear hz hcell hq
          go_upto_region 9 with (first
            | (refine wpList_load_mid (by rfl) 38 (.tmp 20) (by rfl) blk (off + k * 3) (by rfl) (runL (qn, qf, qt)) _ HR.out hfs rfl (run_infoL (qn, qf, qt)) ?_)
            | (refine wpList_store_mid (by rfl) 38 (.tmp 5) (.tmp 21) (by rfl) M 0 (runL (qn, qf, qt)).toArray (by rfl) (by rfl) TH.out (run_infoA (qn, qf, qt)) (run_one (qn, qf, qt)) ?_))
          rw [show (wr.alloc (.cells #[.int .i64 0, .int .i64 0, .int .i64 0] 38)).setCells M 0 (runL (qn, qf, qt)) = W2 from hW2.symm]
          clear hW2 TH hM
          have c0 : W2.cell? ⟨M, 0, none⟩ = some (.int .i64 qn) := HZ.out.cell 0
          have c1 : W2.cell? ⟨M, 1, none⟩ = some (.int .i64 qf) := HZ.out.cell 1
          have c2 : W2.cell? ⟨M, 2, none⟩ = some (.int .i64 qt) := HZ.out.cell 2
          have HT2 := hid (HTB.out.kept HK2.out)
          have O2 := hid (HO.out.kept KW.out (fun h => h))
          have KO2 : Hid (Kp (Jb N) W W2) := hid (KO.out.trans KW.out (fun _ _ h => h.elim))
          have RZ := hid (range_ofR HZ.out)
          clear c0 c1 c2 HO KO
          go_wp2_with (refine wpList_load_mid (by rfl) 38 (.tmp 5) (by rfl) M 0 (by rfl) (runL (qn, qf, qt)) _ RZ.out hfs rfl (run_infoL (qn, qf, qt)) ?_)
          refine (runtext_any (qn, qf, qt) W2 HOK HT2.out).mono ?_
          rintro r w6 ⟨rfl, k6⟩
          have O6 := hid (O2.out.kept k6 (fun h => h))
          have KO6 : Hid (Kp (Jb N) W w6) := hid (KO2.out.trans k6 (fun _ _ h => h.elim))
          clear k6
          have fz := O6.out.frozen k
          have ck : w6.cell? ⟨N, k, none⟩ = some (.string ⟨#[]⟩) := by rw [O6.out.cell k]; exact stL_get c k (by rw [HLE.out]; exact hlt)
          obtain ⟨tv, htv⟩ : ∃ s, bs (textR (qn, qf, qt)) = s := ⟨_, rfl⟩
          have HO7 : Hid (Blk (w6.setCell ⟨N, k, none⟩ (.string tv)) N 9 (stL c (k + 1))) := hid (by
            have := O6.out.set k (.string tv)
            rw [← stL_set c k (by rw [HLE.out]; exact hlt), HQ.out]
            unfold txV
            rw [htv]
            exact this)
          have KO7 : Hid (Kp (Jb N) W (w6.setCell ⟨N, k, none⟩ (.string tv))) := hid (KO6.out.set k _)
          rw [htv]
          clear htv
          go_wp2
          go_roundw
          case rel => exact ⟨k + 1, by rw [HLE.out]; exact HLT.out, by go_num, HO7, KO7⟩
          case measure => have := HLT.out; simp [intOf]; omega
        · obtain rfl : k = L := by omega
          have HJ : Hid (Calls Tryz.prog 102 #[.slice (some ⟨N, 0, none⟩) k k, .string ⟨#[32]⟩] wr fun e w' => e = .returned (.string R) ∧ Kp Nb wr w') := hid (by
            have hl : (c.map fun q => bs (textR q)).length = k := by rw [List.length_map, HLE.out]
            have e1 : (c.map fun q => bs (textR q)).map (·.data.toList) = c.map textR := by rw [List.map_map]; rfl
            have h := Tryz.strings_Join N 0 k (c.map fun q => bs (textR q)) ⟨#[32]⟩ wr (fun j x hx => by
              rw [Nat.zero_add, HO.out.cell j]
              have e : stL c k = c.map txV := by unfold stL; rw [HLE.out, Nat.sub_self, ← HLE.out, List.take_length, List.replicate_zero, List.append_nil]
              rw [e]
              rw [List.getElem?_map] at hx ⊢
              cases hc : c[j]? with
              | none => rw [hc] at hx; cases hx
              | some q => rw [hc] at hx; injection hx with hx; rw [← hx]; rfl)
              HO.out.lt (by rw [hl]; have := HBG.out; omega) (by rw [hl]; exact Nat.le_refl _) (by
                rw [e1]
                have := join_len [32] (c.map textR) (fun x hx => by
                  obtain ⟨q, hq, rfl⟩ := List.mem_map.1 hx
                  exact textR_len q (HOKS.out q hq))
                rw [List.length_map, HLE.out] at this
                have h2 := HBG.out
                simp only [List.length_singleton] at this
                show (Lib.join (c.map textR) [32]).length ≤ _
                omega)
            rw [hl, e1] at h
            refine h.mono ?_
            rintro e w' ⟨rfl, hb⟩
            exact ⟨by rw [HE.out], kp_below hb⟩)
          go_wp2_with fail
          refine HJ.out.mono ?_
          rintro r w8 ⟨rfl, k8⟩
          have K8 := hid (HKW.out.trans k8 (fun _ _ h => h))
          clear k8
          go_wp2
          go_ret
          exact ⟨rfl, K8.out⟩
end
section
open Go.RowKit
abbrev IsDig (b : UInt8) : Prop := 48 ≤ b.toNat ∧ b.toNat ≤ 57
theorem dig_of (u : Nat) (h : u < 10) : (UInt8.ofNat (48 + u)).toNat = 48 + u := by
  rw [UInt8.toNat_ofNat']
  omega
theorem dec_digs (u : Nat) : ∀ b ∈ Lib.decDigits u, IsDig b := by
  induction u using Nat.strongRecOn with
  | _ u ih =>
    intro b hb
    unfold Lib.decDigits at hb
    split at hb
    · rename_i h
      rw [List.mem_singleton.1 hb]
      unfold IsDig
      rw [dig_of u h]; omega
    · rename_i h
      rcases List.mem_append.1 hb with hb | hb
      · exact ih (u / 10) (by omega) b hb
      · rw [List.mem_singleton.1 hb]
        unfold IsDig
        rw [dig_of (u % 10) (Nat.mod_lt _ (by decide))]
        have := Nat.mod_lt u (show 0 < 10 by decide)
        omega
theorem dec_ne (u : Nat) : Lib.decDigits u ≠ [] := by
  unfold Lib.decDigits
  split <;> simp
theorem decFrom_app (a b : List UInt8) : ∀ acc, Lib.decFrom acc (a ++ b) = (Lib.decFrom acc a).bind fun n => Lib.decFrom n b := by
  induction a with
  | nil => intro acc; rfl
  | cons x a ih =>
    intro acc
    rw [List.cons_append]
    simp only [Lib.decFrom]
    cases Lib.digitVal x with
    | none => rfl
    | some d => exact ih _
theorem digitVal_of (u : Nat) (h : u < 10) : Lib.digitVal (UInt8.ofNat (48 + u)) = some u := by
  unfold Lib.digitVal
  rw [dig_of u h, if_pos (by omega)]
  congr 1
  omega
theorem decFrom_dec (u : Nat) : Lib.decFrom 0 (Lib.decDigits u) = some u := by
  induction u using Nat.strongRecOn with
  | _ u ih =>
    unfold Lib.decDigits
    split
    · rename_i h
      unfold Lib.decFrom
      rw [digitVal_of u h]
      dsimp only
      unfold Lib.decFrom
      rw [Nat.zero_mul, Nat.zero_add]
    · rename_i h
      rw [decFrom_app, ih (u / 10) (by omega), Option.bind_some]
      unfold Lib.decFrom
      rw [digitVal_of (u % 10) (Nat.mod_lt _ (by decide))]
      dsimp only
      unfold Lib.decFrom
      congr 1
      omega
theorem itoa_pos (n : Int) (h : 0 ≤ n) : Lib.itoa n = Lib.decDigits n.toNat := by unfold Lib.itoa; rw [if_neg (by omega)]
theorem atoi_itoa (n : Int) (h : 0 ≤ n) : Lib.atoi (Lib.itoa n) = some n := by
  rw [itoa_pos n h]
  have h1 := decFrom_dec n.toNat
  have h2 := dec_digs n.toNat
  have h3 := dec_ne n.toNat
  revert h1 h2 h3
  cases hd : Lib.decDigits n.toNat with
  | nil => intro _ _ h; exact (h rfl).elim
  | cons b r =>
    intro h1 h2 _
    have hb := h2 b (by simp)
    have e1 : (b == 45) = false := by
      rw [beq_eq_false_iff_ne]; intro e; rw [e] at hb; revert hb; decide
    have e2 : (b == 43) = false := by
      rw [beq_eq_false_iff_ne]; intro e; rw [e] at hb; revert hb; decide
    have e3 : Lib.decNat (b :: r) = some n.toNat := by unfold Lib.decNat; exact h1
    simp only [Lib.atoi, e1, e2, e3, Bool.false_eq_true, if_false, Option.map_some]
    congr 1
    omega
theorem itoa_digs (n : Int) (h : 0 ≤ n) : ∀ b ∈ Lib.itoa n, IsDig b := by rw [itoa_pos n h]; exact dec_digs _
theorem itoa_short (n : Int) (h : 0 ≤ n) (h1 : n ≤ 1099511627776) : (Lib.itoa n).length ≤ 13 := by
  rw [itoa_pos n h]
  exact dec_len 12 n.toNat (by simp; omega)
theorem itoa_ne (n : Int) (h : 0 ≤ n) : Lib.itoa n ≠ [] := by rw [itoa_pos n h]; exact dec_ne _
theorem not_dig {c : UInt8} (h : ¬ IsDig c) {l : List UInt8} (hl : ∀ b ∈ l, IsDig b) : c ∉ l := fun hm => h (hl c hm)
theorem indexByte_hit (c : UInt8) (b : List UInt8) : ∀ a : List UInt8, c ∉ a → Lib.indexByte (a ++ c :: b) c = (a.length : Int)
  | [], _ => by unfold Lib.indexByte; simp
  | x :: a, h => by
    have ih := indexByte_hit c b a (fun hm => h (by simp [hm]))
    have hx : (x == c) = false := by rw [beq_eq_false_iff_ne]; intro e; exact h (by simp [e])
    rw [List.cons_append]
    unfold Lib.indexByte
    rw [hx, ih]
    have h2 : ((a.length : Int) == -1) = false := by rw [beq_eq_false_iff_ne]; omega
    rw [h2, List.length_cons]
    simp
theorem indexByte_miss (c : UInt8) : ∀ a : List UInt8, c ∉ a → Lib.indexByte a c = -1
  | [], _ => rfl
  | x :: a, h => by
    have ih := indexByte_miss c a (fun hm => h (by simp [hm]))
    have hx : (x == c) = false := by rw [beq_eq_false_iff_ne]; intro e; exact h (by simp [e])
    unfold Lib.indexByte
    rw [hx, ih]
    rfl
theorem cut_hit (a b : List UInt8) (c : UInt8) (h : c ∉ a) : Lib.cut (a ++ [c] ++ b) [c] = (a, b, true) := by
  have e : Lib.index (a ++ [c] ++ b) [c] = (a.length : Int) := by
    rw [Lib.index_one, List.append_assoc]
    exact indexByte_hit c b a h
  unfold Lib.cut
  rw [e, if_pos (by omega), Int.toNat_natCast]
  have e1 : (a ++ [c] ++ b).take a.length = a := by rw [List.append_assoc, List.take_left']; rfl
  have e2 : (a ++ [c] ++ b).drop (a.length + [c].length) = b := by rw [List.drop_left']; rw [List.length_append]
  rw [e1, e2]
theorem cut_miss (a : List UInt8) (c : UInt8) (h : c ∉ a) : Lib.cut a [c] = (a, [], false) := by
  have e : Lib.index a [c] = -1 := by rw [Lib.index_one]; exact indexByte_miss c a h
  unfold Lib.cut
  rw [e, if_neg (by decide)]
/-- A good run's text, cut. -/
def restR (q : RunQ) : List UInt8 := Lib.itoa q.2.1 ++ (if q.2.1 < q.2.2 then [45] ++ Lib.itoa q.2.2 else [])
theorem textR_cut {q : RunQ} (h : goodR q = true) : Lib.cut (textR q) [58] = (Lib.itoa q.1, restR q, true) := by
  have g := goodR_of.1 h
  have e : textR q = Lib.itoa q.1 ++ [58] ++ restR q := by unfold textR restR; simp only [List.append_assoc]
  rw [e]
  exact cut_hit _ _ _ (not_dig (by unfold IsDig; decide) (itoa_digs q.1 (by omega)))
theorem restR_cut {q : RunQ} (h : goodR q = true) : Lib.cut (restR q) [45] = if q.2.1 < q.2.2 then (Lib.itoa q.2.1, Lib.itoa q.2.2, true) else (Lib.itoa q.2.1, [], false) := by
  have g := goodR_of.1 h
  have hn : (45 : UInt8) ∉ Lib.itoa q.2.1 := not_dig (by unfold IsDig; decide) (itoa_digs q.2.1 (by omega))
  unfold restR
  by_cases h1 : q.2.1 < q.2.2
  · rw [if_pos h1, if_pos h1, ← List.append_assoc]
    exact cut_hit _ _ _ hn
  · rw [if_neg h1, if_neg h1, List.append_nil]
    exact cut_miss _ _ hn
end
section
open Go.RowKit
/-- The library's word MaxLen lies in memory. -/
def Mx (w : World) : Prop := ∃ m, w.cell? ⟨0, 0, none⟩ = some (.int .i64 m)
theorem Mx.keptS {S : Nat → Prop} {w w' : World} (h : Mx w) (k : Kp S w w') (hS : ¬ S 0) : Mx w' := by
  obtain ⟨m, hm⟩ := h
  exact ⟨m, k.cell hm hS⟩
theorem Mx.kept {w w' : World} (h : Mx w) (k : Kp Nb w w') : Mx w' := h.keptS k (fun h => h)
theorem cut_any (s sep a b : List UInt8) (t : Bool) (w : World) (hm : Mx w) (hs : s.length < 4294967281) (h : Lib.cut s sep = (a, b, t)) :
    Calls Tryz.prog 73 #[.string (bs s), .string (bs sep)] w fun e w' => e = .returned (.tuple #[.string (bs a), .string (bs b), .bool t]) ∧ Kp Nb w w' := by
  obtain ⟨m, hm⟩ := hm
  refine Calls.mono (Tryz.strings_Cut (bs s) (bs sep) m w (by show s.toArray.size < _; rw [List.size_toArray]; exact hs) hm) ?_
  rintro e w' ⟨rfl, n, rfl⟩
  have e1 : (bs s).data.toList = s := rfl
  have e2 : (bs sep).data.toList = sep := rfl
  rw [e1, e2, h]
  exact ⟨rfl, (Kp.refl Nb w).drewN n⟩
theorem atoi_any (s : List UInt8) (n : Int) (w : World) (hl : s.length ≤ 18) (h : Lib.atoi s = some n) :
    Calls Tryz.prog 128 #[.string (bs s)] w fun e w' => e = .returned (.tuple #[.int .i64 n, .nilIface]) ∧ Kp Nb w w' := by
  refine Calls.mono (Tryz.strconv_Atoi (bs s) n (by show s.toArray.size ≤ _; rw [List.size_toArray]; exact hl) h w) ?_
  rintro e w' ⟨rfl, t, rfl⟩
  exact ⟨rfl, kp_below (Go.Joins.below_bytesWorld _ w _ t (Nat.le_refl _))⟩
theorem idx3_0 (a b c : ByteArray) (w : World) : (Instr.index 158 (.agg #[.string a, .string b, .string c]) (.int .i64 0)).run Tryz.prog w = .ok (.string a) w := by kernel_rfl
theorem idx3_1 (a b c : ByteArray) (w : World) : (Instr.index 158 (.agg #[.string a, .string b, .string c]) (.int .i64 1)).run Tryz.prog w = .ok (.string b) w := by kernel_rfl
theorem idx3_2 (a b c : ByteArray) (w : World) : (Instr.index 158 (.agg #[.string a, .string b, .string c]) (.int .i64 2)).run Tryz.prog w = .ok (.string c) w := by kernel_rfl
/-- The two results of a function: a variable's cells and a slot. -/
theorem results_ctD {P : Program} {w : World} {fn : Func} {s t : Tmp} {T : TypeId} (h : fn.results = #[.cell s T, .tmp t]) (tmps : Array Value) (B : Nat) (ht : tmps.getD s undef = .pointer (some ⟨B, 0, none⟩)) (v u : Value) (hu : tmps.getD t undef = u) (hl : (loadVar T ⟨B, 0, none⟩).run P w = .ok v w) :
    (results fn tmps).run P w = .ok (.tuple #[v, u]) w := by
  simp only [Array.getD_eq_getD_getElem?] at ht hu
  simp [results, h, ht, hl, hu, asAddr]
def pvL (q : RunQ) : Nat → List Value
  | 0 => [.int .i64 0, .int .i64 0, .int .i64 0]
  | 1 => [.int .i64 q.1, .int .i64 0, .int .i64 0]
  | 2 => [.int .i64 q.1, .int .i64 q.2.1, .int .i64 0]
  | _ => [.int .i64 q.1, .int .i64 q.2.1, .int .i64 q.2.2]
def PrR (w : World) (N M : Nat) (q : RunQ) (i : Value) (wr : World) : Prop := ∃ k : Nat, k ≤ 3 ∧ i = .int .i64 k ∧ Hid (Blk wr M 157 (pvL q k)) ∧ Hid (Blk wr N 38 (runL (0, 0, 0))) ∧ Hid (Kp Nb w wr)
set_option maxRecDepth 100000 in
set_option maxHeartbeats 4000000 in
theorem parserun_any (q : RunQ) (w : World) (hq : goodR q = true) (hm : Mx w) : Calls Tryz.prog 113 #[.string (bs (textR q))] w fun e w' => e = .returned (.tuple #[runV q, .bool true]) ∧ Kp Nb w w' := by
  have g := goodR_of.1 hq
  have HMX := hid hm
  have ok : RunOk q := by unfold RunOk I64; omega
  obtain ⟨S, hS⟩ : ∃ S, bs (textR q) = S := ⟨_, rfl⟩
  obtain ⟨sr, hsr⟩ : ∃ s, bs (restR q) = s := ⟨_, rfl⟩
  obtain ⟨sn, hsn⟩ : ∃ s, bs (Lib.itoa q.1) = s := ⟨_, rfl⟩
  obtain ⟨sf, hsf⟩ : ∃ s, bs (Lib.itoa q.2.1) = s := ⟨_, rfl⟩
  obtain ⟨st', hst⟩ : ∃ s, bs (Lib.itoa q.2.2) = s := ⟨_, rfl⟩
  have htl := textR_len q ok
  have C1 : Hid (∀ wx, Mx wx → Calls Tryz.prog 73 #[.string S, .string ⟨#[58]⟩] wx fun e w' => e = .returned (.tuple #[.string sn, .string sr, .bool true]) ∧ Kp Nb wx w') := hid (fun wx h => by
    rw [← hS, ← hsn, ← hsr]; exact cut_any _ [58] _ _ _ wx h (by omega) (textR_cut hq))
  have hrl : (restR q).length ≤ 77 := by
    have : (textR q).length = (Lib.itoa q.1 ++ [58] ++ restR q).length := by unfold textR restR; simp only [List.append_assoc]
    rw [List.length_append] at this
    omega
  have C2 : Hid (∀ wx, Mx wx → Calls Tryz.prog 73 #[.string sr, .string ⟨#[45]⟩] wx fun e w' => e = .returned (if q.2.1 < q.2.2 then .tuple #[.string sf, .string st', .bool true] else .tuple #[.string sf, .string ⟨#[]⟩, .bool false]) ∧ Kp Nb wx w') := hid (fun wx h => by
    rw [← hsr, ← hsf, ← hst]
    have hc := restR_cut hq
    by_cases h1 : q.2.1 < q.2.2
    · rw [if_pos h1] at hc ⊢; exact cut_any _ [45] _ _ _ wx h (by omega) hc
    · rw [if_neg h1] at hc ⊢; exact cut_any _ [45] _ _ _ wx h (by omega) hc)
  have A1 : Hid (∀ wx, Calls Tryz.prog 128 #[.string sn] wx fun e w' => e = .returned (.tuple #[.int .i64 q.1, .nilIface]) ∧ Kp Nb wx w') := hid (fun wx => by rw [← hsn]; exact atoi_any _ _ wx (by have := itoa_short q.1 (by omega) (by omega); omega) (atoi_itoa _ (by omega)))
  have A2 : Hid (∀ wx, Calls Tryz.prog 128 #[.string sf] wx fun e w' => e = .returned (.tuple #[.int .i64 q.2.1, .nilIface]) ∧ Kp Nb wx w') := hid (fun wx => by rw [← hsf]; exact atoi_any _ _ wx (by have := itoa_short q.2.1 (by omega) (by omega); omega) (atoi_itoa _ (by omega)))
  have A3 : Hid (∀ wx, Calls Tryz.prog 128 #[.string st'] wx fun e w' => e = .returned (.tuple #[.int .i64 q.2.2, .nilIface]) ∧ Kp Nb wx w') := hid (fun wx => by rw [← hst]; exact atoi_any _ _ wx (by have := itoa_short q.2.2 (by omega) (by omega); omega) (atoi_itoa _ (by omega)))
  have HEQ : Hid (¬ q.2.1 < q.2.2 → q.2.2 = q.2.1 ∧ sf = st') := hid (fun h => by
    have e : q.2.2 = q.2.1 := by omega
    refine ⟨e, ?_⟩
    rw [← hsf, ← hst, e])
  rw [hS]
  clear hm g ok hS hsr hsn hsf hst htl hrl hq
  obtain ⟨qn, qf, qt⟩ := q
  dsimp only at C2 A1 A2 A3 HEQ
  obtain ⟨N, hN⟩ : ∃ N, w.heap.size = N := ⟨_, rfl⟩
  obtain ⟨W, hW⟩ : ∃ W, W = w.alloc (.cells #[.int .i64 0, .int .i64 0, .int .i64 0] 38) := ⟨_, rfl⟩
  have HB0 : Hid (Blk W N 38 (runL (0, 0, 0))) := hid (by rw [hW, ← hN]; exact Blk.new w _ _)
  have K0 : Hid (Kp Nb w W) := hid (by rw [hW]; exact (Kp.refl Nb w).alloc _)
  have HM0 := hid (HMX.out.kept K0.out)
  have HNW : Hid (w.heap.size = N) := hid hN
  go_enter Tryz.func113, Tryz.ntmps113
  go_upto_region 1 with fail
  rw [← hW]
  clear hW hN
  go_wp2_with fail
  refine (C1.out W HM0.out).mono ?_
  rintro r w1 ⟨rfl, k1⟩
  have B1 := hid (HB0.out.kept k1 (fun h => h))
  have K1 := hid (K0.out.trans k1 (fun _ _ h => h))
  have M1 := hid (HM0.out.kept k1)
  clear k1
  go_wp2_with fail
  refine (C2.out w1 M1.out).mono ?_
  rintro r w2 ⟨rfl, k2⟩
  have B2 := hid (B1.out.kept k2 (fun h => h))
  have K2 := hid (K1.out.trans k2 (fun _ _ h => h))
  clear k2
  obtain ⟨M, hM⟩ : ∃ M, w2.heap.size = M := ⟨_, rfl⟩
  obtain ⟨W3, hW3⟩ : ∃ W, W = w2.alloc (.cells #[.int .i64 0, .int .i64 0, .int .i64 0] 157) := ⟨_, rfl⟩
  have HZ3 : Hid (Blk W3 M 157 (pvL (qn, qf, qt) 0)) := hid (by rw [hW3, ← hM]; exact Blk.new w2 _ _)
  have HB3 : Hid (Blk W3 N 38 (runL (0, 0, 0))) := hid (by rw [hW3]; exact B2.out.alloc _)
  have K3 : Hid (Kp Nb w W3) := hid (by rw [hW3]; exact K2.out.alloc _)
  have HMN : Hid (N ≠ M ∧ w.heap.size ≤ N ∧ w.heap.size ≤ M) := hid (by have := B2.out.lt; have := K2.out.size; have := HNW.out; omega)
  by_cases hlt : qf < qt
  · rw [if_pos hlt]
    go_upto_region 6 with fail
    rw [← hW3]
    clear hW3 hM
    go_wp2
    go_loopw [34] (PrR w N M (qn, qf, qt)) (fun i _ => 3 - (intOf i).toNat)
    case atStart => exact ⟨0, by omega, rfl, HZ3, HB3, K3⟩
    case round =>
      obtain ⟨k, hk, rfl, HZ, HN, HK⟩ := hrel
      obtain rfl | rfl | rfl | rfl : k = 0 ∨ k = 1 ∨ k = 2 ∨ k = 3 := by omega
      · have ix := idx3_0 sn sf st'
        go_wp2_with fail
        refine (A1.out wr).mono ?_
        rintro r w5 ⟨rfl, k5⟩
        have HZ5 := hid (HZ.out.kept k5 (fun h => h))
        have HN5 := hid (HN.out.kept k5 (fun h => h))
        have HK5 := hid (HK.out.trans k5 (fun _ _ h => h))
        clear k5
        have fz := HZ5.out.frozen 0
        have ck : w5.cell? ⟨M, 0, none⟩ = some (.int .i64 0) := HZ5.out.cell 0
        have HZ6 : Hid (Blk (w5.setCell ⟨M, 0, none⟩ (.int .i64 qn)) M 157 (pvL (qn, qf, qt) (0 + 1))) := hid (HZ5.out.set 0 _)
        have HN6 : Hid (Blk (w5.setCell ⟨M, 0, none⟩ (.int .i64 qn)) N 38 (runL (0, 0, 0))) := hid (HN5.out.kept (S := Jb M) ((Kp.refl (Jb M) w5).set 0 _) (fun h => HMN.out.1 h))
        have HK6 : Hid (Kp Nb w (w5.setCell ⟨M, 0, none⟩ (.int .i64 qn))) := hid (HK5.out.setCell (p := ⟨M, 0, none⟩) (fun h => by have := HMN.out; dsimp only at h; omega) _)
        go_wp2
        go_roundw
        case rel => exact ⟨0 + 1, by omega, by go_num, HZ6, HN6, HK6⟩
        case measure => simp [intOf]
      · have ix := idx3_1 sn sf st'
        go_wp2_with fail
        refine (A2.out wr).mono ?_
        rintro r w5 ⟨rfl, k5⟩
        have HZ5 := hid (HZ.out.kept k5 (fun h => h))
        have HN5 := hid (HN.out.kept k5 (fun h => h))
        have HK5 := hid (HK.out.trans k5 (fun _ _ h => h))
        clear k5
        have fz := HZ5.out.frozen 1
        have ck : w5.cell? ⟨M, 1, none⟩ = some (.int .i64 0) := HZ5.out.cell 1
        have HZ6 : Hid (Blk (w5.setCell ⟨M, 1, none⟩ (.int .i64 qf)) M 157 (pvL (qn, qf, qt) (1 + 1))) := hid (HZ5.out.set 1 _)
        have HN6 : Hid (Blk (w5.setCell ⟨M, 1, none⟩ (.int .i64 qf)) N 38 (runL (0, 0, 0))) := hid (HN5.out.kept (S := Jb M) ((Kp.refl (Jb M) w5).set 1 _) (fun h => HMN.out.1 h))
        have HK6 : Hid (Kp Nb w (w5.setCell ⟨M, 1, none⟩ (.int .i64 qf))) := hid (HK5.out.setCell (p := ⟨M, 1, none⟩) (fun h => by have := HMN.out; dsimp only at h; omega) _)
        go_wp2
        go_roundw
        case rel => exact ⟨1 + 1, by omega, by go_num, HZ6, HN6, HK6⟩
        case measure => simp [intOf]
      · have ix := idx3_2 sn sf st'
        go_wp2_with fail
        refine (A3.out wr).mono ?_
        rintro r w5 ⟨rfl, k5⟩
        have HZ5 := hid (HZ.out.kept k5 (fun h => h))
        have HN5 := hid (HN.out.kept k5 (fun h => h))
        have HK5 := hid (HK.out.trans k5 (fun _ _ h => h))
        clear k5
        have fz := HZ5.out.frozen 2
        have ck : w5.cell? ⟨M, 2, none⟩ = some (.int .i64 0) := HZ5.out.cell 2
        have HZ6 : Hid (Blk (w5.setCell ⟨M, 2, none⟩ (.int .i64 qt)) M 157 (pvL (qn, qf, qt) (2 + 1))) := hid (HZ5.out.set 2 _)
        have HN6 : Hid (Blk (w5.setCell ⟨M, 2, none⟩ (.int .i64 qt)) N 38 (runL (0, 0, 0))) := hid (HN5.out.kept (S := Jb M) ((Kp.refl (Jb M) w5).set 2 _) (fun h => HMN.out.1 h))
        have HK6 : Hid (Kp Nb w (w5.setCell ⟨M, 2, none⟩ (.int .i64 qt))) := hid (HK5.out.setCell (p := ⟨M, 2, none⟩) (fun h => by have := HMN.out; dsimp only at h; omega) _)
        go_wp2
        go_roundw
        case rel => exact ⟨2 + 1, by omega, by go_num, HZ6, HN6, HK6⟩
        case measure => simp [intOf]
      · have c0 : wr.cell? ⟨M, 0, none⟩ = some (.int .i64 qn) := HZ.out.cell 0
        have c1 : wr.cell? ⟨M, 1, none⟩ = some (.int .i64 qf) := HZ.out.cell 1
        have c2 : wr.cell? ⟨M, 2, none⟩ = some (.int .i64 qt) := HZ.out.cell 2
        have TH := hid (run_there (q := (qn, qf, qt)) HN.out)
        have HW := hid (row_set (vs := runL (0, 0, 0)) (cs := runL (qn, qf, qt)) HN.out rfl)
        have HKW : Hid (Kp Nb w (wr.setCells N 0 (runL (qn, qf, qt)))) := hid (Kp.setCells (fun h => absurd h (by have := HMN.out; omega)) _ 0 _ HK.out)
        obtain ⟨fs, hfs⟩ := under_run
        go_wp2_with (first
          | (refine wpList_store_mid (by rfl) 38 (.tmp 2) (.tmp 56) (by rfl) N 0 (runL (qn, qf, qt)).toArray (by rfl) (by rfl) TH.out (run_infoA (qn, qf, qt)) (run_one (qn, qf, qt)) ?_))
        refine bodyPost_ret (results_ctD rfl _ N (by rfl) (runV (qn, qf, qt)) (.bool true) (by rfl) (row_loadVar Tryz.underlying38 rfl (run_infoL (qn, qf, qt)) HW.out 0 (fun j _ => by rw [Nat.zero_add]))) rfl ⟨rfl, HKW.out⟩
  · rw [if_neg hlt]
    obtain ⟨e1, e2⟩ := HEQ.out (by omega)
    have e1 : qf = qt := e1.symm
    subst e1 e2
    go_upto_region 6 with fail
    rw [← hW3]
    clear hW3 hM
    go_wp2
    go_loopw [34] (PrR w N M (qn, qf, qf)) (fun i _ => 3 - (intOf i).toNat)
    case atStart => exact ⟨0, by omega, rfl, HZ3, HB3, K3⟩
    case round =>
      obtain ⟨k, hk, rfl, HZ, HN, HK⟩ := hrel
      obtain rfl | rfl | rfl | rfl : k = 0 ∨ k = 1 ∨ k = 2 ∨ k = 3 := by omega
      · have ix := idx3_0 sn sf sf
        go_wp2_with fail
        refine (A1.out wr).mono ?_
        rintro r w5 ⟨rfl, k5⟩
        have HZ5 := hid (HZ.out.kept k5 (fun h => h))
        have HN5 := hid (HN.out.kept k5 (fun h => h))
        have HK5 := hid (HK.out.trans k5 (fun _ _ h => h))
        clear k5
        have fz := HZ5.out.frozen 0
        have ck : w5.cell? ⟨M, 0, none⟩ = some (.int .i64 0) := HZ5.out.cell 0
        have HZ6 : Hid (Blk (w5.setCell ⟨M, 0, none⟩ (.int .i64 qn)) M 157 (pvL (qn, qf, qf) (0 + 1))) := hid (HZ5.out.set 0 _)
        have HN6 : Hid (Blk (w5.setCell ⟨M, 0, none⟩ (.int .i64 qn)) N 38 (runL (0, 0, 0))) := hid (HN5.out.kept (S := Jb M) ((Kp.refl (Jb M) w5).set 0 _) (fun h => HMN.out.1 h))
        have HK6 : Hid (Kp Nb w (w5.setCell ⟨M, 0, none⟩ (.int .i64 qn))) := hid (HK5.out.setCell (p := ⟨M, 0, none⟩) (fun h => by have := HMN.out; dsimp only at h; omega) _)
        go_wp2
        go_roundw
        case rel => exact ⟨0 + 1, by omega, by go_num, HZ6, HN6, HK6⟩
        case measure => simp [intOf]
      · have ix := idx3_1 sn sf sf
        go_wp2_with fail
        refine (A2.out wr).mono ?_
        rintro r w5 ⟨rfl, k5⟩
        have HZ5 := hid (HZ.out.kept k5 (fun h => h))
        have HN5 := hid (HN.out.kept k5 (fun h => h))
        have HK5 := hid (HK.out.trans k5 (fun _ _ h => h))
        clear k5
        have fz := HZ5.out.frozen 1
        have ck : w5.cell? ⟨M, 1, none⟩ = some (.int .i64 0) := HZ5.out.cell 1
        have HZ6 : Hid (Blk (w5.setCell ⟨M, 1, none⟩ (.int .i64 qf)) M 157 (pvL (qn, qf, qf) (1 + 1))) := hid (HZ5.out.set 1 _)
        have HN6 : Hid (Blk (w5.setCell ⟨M, 1, none⟩ (.int .i64 qf)) N 38 (runL (0, 0, 0))) := hid (HN5.out.kept (S := Jb M) ((Kp.refl (Jb M) w5).set 1 _) (fun h => HMN.out.1 h))
        have HK6 : Hid (Kp Nb w (w5.setCell ⟨M, 1, none⟩ (.int .i64 qf))) := hid (HK5.out.setCell (p := ⟨M, 1, none⟩) (fun h => by have := HMN.out; dsimp only at h; omega) _)
        go_wp2
        go_roundw
        case rel => exact ⟨1 + 1, by omega, by go_num, HZ6, HN6, HK6⟩
        case measure => simp [intOf]
      · have ix := idx3_2 sn sf sf
        go_wp2_with fail
        refine (A3.out wr).mono ?_
        rintro r w5 ⟨rfl, k5⟩
        have HZ5 := hid (HZ.out.kept k5 (fun h => h))
        have HN5 := hid (HN.out.kept k5 (fun h => h))
        have HK5 := hid (HK.out.trans k5 (fun _ _ h => h))
        clear k5
        have fz := HZ5.out.frozen 2
        have ck : w5.cell? ⟨M, 2, none⟩ = some (.int .i64 0) := HZ5.out.cell 2
        have HZ6 : Hid (Blk (w5.setCell ⟨M, 2, none⟩ (.int .i64 qf)) M 157 (pvL (qn, qf, qf) (2 + 1))) := hid (HZ5.out.set 2 _)
        have HN6 : Hid (Blk (w5.setCell ⟨M, 2, none⟩ (.int .i64 qf)) N 38 (runL (0, 0, 0))) := hid (HN5.out.kept (S := Jb M) ((Kp.refl (Jb M) w5).set 2 _) (fun h => HMN.out.1 h))
        have HK6 : Hid (Kp Nb w (w5.setCell ⟨M, 2, none⟩ (.int .i64 qf))) := hid (HK5.out.setCell (p := ⟨M, 2, none⟩) (fun h => by have := HMN.out; dsimp only at h; omega) _)
        go_wp2
        go_roundw
        case rel => exact ⟨2 + 1, by omega, by go_num, HZ6, HN6, HK6⟩
        case measure => simp [intOf]
      · have c0 : wr.cell? ⟨M, 0, none⟩ = some (.int .i64 qn) := HZ.out.cell 0
        have c1 : wr.cell? ⟨M, 1, none⟩ = some (.int .i64 qf) := HZ.out.cell 1
        have c2 : wr.cell? ⟨M, 2, none⟩ = some (.int .i64 qf) := HZ.out.cell 2
        have TH := hid (run_there (q := (qn, qf, qf)) HN.out)
        have HW := hid (row_set (vs := runL (0, 0, 0)) (cs := runL (qn, qf, qf)) HN.out rfl)
        have HKW : Hid (Kp Nb w (wr.setCells N 0 (runL (qn, qf, qf)))) := hid (Kp.setCells (fun h => absurd h (by have := HMN.out; omega)) _ 0 _ HK.out)
        obtain ⟨fs, hfs⟩ := under_run
        go_wp2_with (first
          | (refine wpList_store_mid (by rfl) 38 (.tmp 2) (.tmp 56) (by rfl) N 0 (runL (qn, qf, qf)).toArray (by rfl) (by rfl) TH.out (run_infoA (qn, qf, qf)) (run_one (qn, qf, qf)) ?_))
        refine bodyPost_ret (results_ctD rfl _ N (by rfl) (runV (qn, qf, qf)) (.bool true) (by rfl) (row_loadVar Tryz.underlying38 rfl (run_infoL (qn, qf, qf)) HW.out 0 (fun j _ => by rw [Nat.zero_add]))) rfl ⟨rfl, HKW.out⟩
end
section
open Go.ChangeShapes Go.WideShapes Go.ChangeAt Go.RowKit
theorem cells_int : Tryz.prog.cellsOf 3 = 1 := by kernel_rfl
theorem cells_run : Tryz.prog.cellsOf 38 = 3 := by kernel_rfl
theorem cells_clock : Tryz.prog.cellsOf 25 = 1 := by kernel_rfl
theorem wf_i64 {z : Int} (h : (Lit.int .i64 z).wf = true) : I64 z := by
  simp [Lit.wf] at h
  have hmin : IntKind.i64.min = -9223372036854775808 := by decide
  rw [hmin] at h
  have := h.2
  exact ⟨h.1, by omega⟩
theorem one_at {cs : List Value} {n : Nat} (i : Nat) (hl : cs.length = n) (hi : i < n) : ∃ y, cs[i]? = some y ∧ (cs.drop i).take 1 = [y] := by
  have hi' : i < cs.length := by omega
  exact ⟨cs[i], List.getElem?_eq_getElem hi', by rw [List.drop_eq_getElem_cons hi', List.take_succ_cons, List.take_zero]⟩
theorem three_at {cs : List Value} {a b c : Value} (hl : cs.length = 3) (h0 : cs[0]? = some a) (h1 : cs[1]? = some b) (h2 : cs[2]? = some c) : cs = [a, b, c] := by
  match cs, hl with
  | [x, y, z], _ =>
    have ea : x = a := by simpa using h0
    have eb : y = b := by simpa using h1
    have ec : z = c := by simpa using h2
    rw [ea, eb, ec]
section
variable {H : Type} {enc : TypeId × Value → H} {W : World}
theorem open_runcs {fuel : Nat} {cs : List Value} {x : DataW H × List MemPlace} (h : DataW.trod enc Tryz.prog W 0 (fun _ => true) true fuel 38 cs = some x) : ∃ q : RunQ, RunOk q ∧ cs = runL q := by
  obtain ⟨xs, k, _, _, hl, hxl, hfs⟩ := DataW.trod_struct Tryz.underlying38 h
  rw [cells_run] at hl
  match xs, hxl with
  | [y0, y1, y2], _ =>
    have g0 : DataW.trod enc Tryz.prog W 0 (fun _ => true) true k 3 ((cs.drop 0).take (Tryz.prog.cellsOf 3)) = some y0 := hfs 0 _ rfl
    have g1 : DataW.trod enc Tryz.prog W 0 (fun _ => true) true k 3 ((cs.drop 1).take (Tryz.prog.cellsOf 3)) = some y1 := hfs 1 _ rfl
    have g2 : DataW.trod enc Tryz.prog W 0 (fun _ => true) true k 3 ((cs.drop 2).take (Tryz.prog.cellsOf 3)) = some y2 := hfs 2 _ rfl
    rw [cells_int] at g0 g1 g2
    obtain ⟨c0, h0, e0⟩ := one_at 0 hl (by omega)
    obtain ⟨c1, h1, e1⟩ := one_at 1 hl (by omega)
    obtain ⟨c2, h2, e2⟩ := one_at 2 hl (by omega)
    rw [e0] at g0
    rw [e1] at g1
    rw [e2] at g2
    obtain ⟨z0, hz0, _, hw0⟩ := DataW.trod_int Tryz.underlying3 g0
    obtain ⟨z1, hz1, _, hw1⟩ := DataW.trod_int Tryz.underlying3 g1
    obtain ⟨z2, hz2, _, hw2⟩ := DataW.trod_int Tryz.underlying3 g2
    simp only [List.cons.injEq, and_true] at hz0 hz1 hz2
    subst hz0 hz1 hz2
    exact ⟨(z0, z1, z2), ⟨wf_i64 hw0, wf_i64 hw1, wf_i64 hw2⟩, three_at hl h0 h1 h2⟩
theorem cl_rows {v : Value} {c : List RunQ} (ho : ∀ q ∈ c, RunOk q) (h : RowsSl runL (0, 0, 0) 3 W v c) : ClSl W v c := ⟨runAt_ok ho, h⟩
end
end
section
open Go.RowKit
abbrev DotQ := Int × Int
def dotL (q : DotQ) : List Value := [.int .i64 q.1, .int .i64 q.2]
def DotOk (q : DotQ) : Prop := I64 q.1 ∧ I64 q.2
end
section
open Go.ChangeShapes Go.WideShapes Go.ChangeAt Go.RowKit
theorem cells_dot : Tryz.prog.cellsOf 23 = 2 := by kernel_rfl
theorem two_at {cs : List Value} {a b : Value} (hl : cs.length = 2) (h0 : cs[0]? = some a) (h1 : cs[1]? = some b) : cs = [a, b] := by
  match cs, hl with
  | [x, y], _ =>
    have ea : x = a := by simpa using h0
    have eb : y = b := by simpa using h1
    rw [ea, eb]
section
variable {H : Type} {enc : TypeId × Value → H} {W : World}
theorem open_dotcs {fuel : Nat} {cs : List Value} {x : DataW H × List MemPlace} (hl : cs.length = 2) (h : DataW.trod enc Tryz.prog W 0 (fun _ => true) true fuel 23 cs = some x) : ∃ q : DotQ, DotOk q ∧ cs = dotL q := by
  obtain ⟨xs, k, _, _, _, hxl, hfs⟩ := DataW.trod_struct Tryz.underlying23 h
  match xs, hxl with
  | [y0, y1], _ =>
    have g0 : DataW.trod enc Tryz.prog W 0 (fun _ => true) true k 3 ((cs.drop 0).take (Tryz.prog.cellsOf 3)) = some y0 := hfs 0 _ rfl
    have g1 : DataW.trod enc Tryz.prog W 0 (fun _ => true) true k 3 ((cs.drop 1).take (Tryz.prog.cellsOf 3)) = some y1 := hfs 1 _ rfl
    rw [cells_int] at g0 g1
    obtain ⟨c0, h0, e0⟩ := one_at 0 hl (by omega)
    obtain ⟨c1, h1, e1⟩ := one_at 1 hl (by omega)
    rw [e0] at g0
    rw [e1] at g1
    obtain ⟨z0, hz0, _, hw0⟩ := DataW.trod_int Tryz.underlying3 g0
    obtain ⟨z1, hz1, _, hw1⟩ := DataW.trod_int Tryz.underlying3 g1
    simp only [List.cons.injEq, and_true] at hz0 hz1
    subst hz0 hz1
    exact ⟨(z0, z1), ⟨wf_i64 hw0, wf_i64 hw1⟩, two_at hl h0 h1⟩
theorem open_dotcs' {fuel : Nat} {cs : List Value} {x : DataW H × List MemPlace} (h : DataW.trod enc Tryz.prog W 0 (fun _ => true) true fuel 23 cs = some x) : ∃ q : DotQ, DotOk q ∧ cs = dotL q := by
  obtain ⟨xs, k, _, _, hl, hxl, hfs⟩ := DataW.trod_struct Tryz.underlying23 h
  rw [cells_dot] at hl
  exact open_dotcs hl h
end
end
section
open Go.RowKit
theorem splitK_join (c : UInt8) : ∀ (xs : List (List UInt8)) (x : List UInt8), c ∉ x → (∀ y ∈ xs, c ∉ y) → Lib.splitK [c] 0 xs.length (x ++ Lib.joinTail [c] xs) = x :: xs
  | [], x, _, _ => by unfold Lib.splitK Lib.joinTail; simp
  | y :: ys, x, hx, hy => by
    have e : x ++ Lib.joinTail [c] (y :: ys) = x ++ c :: (y ++ Lib.joinTail [c] ys) := by unfold Lib.joinTail; simp
    have hi : Lib.index (x ++ c :: (y ++ Lib.joinTail [c] ys)) [c] = (x.length : Int) := by rw [Lib.index_one]; exact indexByte_hit c _ x hx
    rw [e, List.length_cons]
    unfold Lib.splitK
    rw [hi]
    have h1 : ((x.length : Int) == -1) = false := by rw [beq_eq_false_iff_ne]; omega
    rw [h1, if_neg (by decide), Int.toNat_natCast, Nat.add_zero, List.take_left' rfl]
    have h2 : (x ++ c :: (y ++ Lib.joinTail [c] ys)).drop (x.length + [c].length) = y ++ Lib.joinTail [c] ys := by
      rw [show x ++ c :: (y ++ Lib.joinTail [c] ys) = (x ++ [c]) ++ (y ++ Lib.joinTail [c] ys) by simp]
      exact List.drop_left' (by simp)
    rw [h2, splitK_join c ys y (hy y (by simp)) (fun z hz => hy z (by simp [hz]))]
theorem count_join (c : UInt8) : ∀ (xs : List (List UInt8)), (∀ y ∈ xs, c ∉ y) → (Lib.joinTail [c] xs).count c = xs.length
  | [], _ => by simp [Lib.joinTail]
  | y :: ys, hy => by
    have ih := count_join c ys (fun z hz => hy z (by simp [hz]))
    have h1 : y.count c = 0 := List.count_eq_zero.2 (hy y (by simp))
    have e : Lib.joinTail [c] (y :: ys) = c :: (y ++ Lib.joinTail [c] ys) := by unfold Lib.joinTail; simp
    rw [e, List.count_cons_self, List.count_append, h1, ih, List.length_cons]
    omega
theorem split_join (c : UInt8) (x : List UInt8) (xs : List (List UInt8)) (h : ∀ y ∈ x :: xs, c ∉ y) :
    Lib.countB (bs (Lib.join (x :: xs) [c])) (bs [c]) = xs.length ∧ Lib.splitB (bs [c]) 0 xs.length (bs (Lib.join (x :: xs) [c])) = (x :: xs).map bs := by
  have hx := h x (by simp)
  have hxs : ∀ y ∈ xs, c ∉ y := fun y hy => h y (by simp [hy])
  rw [Lib.join_cons]
  constructor
  · show Lib.count (x ++ Lib.joinTail [c] xs) [c] = xs.length
    rw [Lib.count_one, List.count_append, count_join c xs hxs, List.count_eq_zero.2 hx]
    omega
  · have h1 := Lib.splitB_data (bs [c]) 0 xs.length (bs (x ++ Lib.joinTail [c] xs))
    have h2 : Lib.splitK (bs [c]).data.toList 0 xs.length (bs (x ++ Lib.joinTail [c] xs)).data.toList = x :: xs := splitK_join c xs x hx hxs
    rw [h2] at h1
    have h3 := congrArg (List.map bs) h1
    rw [List.map_map] at h3
    rw [← h3]
    have e : (bs ∘ fun (x : ByteArray) => x.data.toList) = id := by funext x; rfl
    rw [e, List.map_id]
theorem textR_no (q : RunQ) (h : goodR q = true) (c : UInt8) (hc : ¬ IsDig c) (h1 : c ≠ 58) (h2 : c ≠ 45) : c ∉ textR q := by
  have g := goodR_of.1 h
  intro hm
  unfold textR at hm
  have d1 := not_dig hc (itoa_digs q.1 (by omega))
  have d2 := not_dig hc (itoa_digs q.2.1 (by omega))
  have d3 := not_dig hc (itoa_digs q.2.2 (by omega))
  rcases List.mem_append.1 hm with hm | hm
  · rcases List.mem_append.1 hm with hm | hm
    · rcases List.mem_append.1 hm with hm | hm
      · exact d1 hm
      · exact h1 (List.mem_singleton.1 hm)
    · exact d2 hm
  · split at hm
    · rcases List.mem_append.1 hm with hm | hm
      · exact h2 (List.mem_singleton.1 hm)
      · exact d3 hm
    · cases hm
theorem textC_split {c : List RunQ} (hr : rightC c = true) (h0 : c.length ≠ 0) :
    Lib.countB (bs (textC c)) (bs [32]) + 1 = c.length ∧ (Lib.splitB (bs [32]) 0 (Lib.countB (bs (textC c)) (bs [32])) (bs (textC c))).map Value.string = c.map txV := by
  have e : textC c = Lib.join (c.map textR) [32] := by unfold textC; rw [hr, if_neg h0]; rfl
  have hg := right_good hr
  rw [e]
  cases c with
  | nil => exact (h0 rfl).elim
  | cons q c =>
    rw [List.map_cons]
    obtain ⟨h1, h2⟩ := split_join 32 (textR q) (c.map textR) (fun y hy => by
      rcases List.mem_cons.1 hy with rfl | hy
      · exact textR_no q (hg q (by simp)) 32 (by decide) (by decide) (by decide)
      · obtain ⟨z, hz, rfl⟩ := List.mem_map.1 hy
        exact textR_no z (hg z (by simp [hz])) 32 (by decide) (by decide) (by decide))
    rw [h1, h2]
    refine ⟨by rw [List.length_map, List.length_cons], ?_⟩
    rw [List.map_cons, List.map_cons, List.map_cons, List.map_map, List.map_map]
    rfl
theorem textC_ne {c : List RunQ} (hr : rightC c = true) (h0 : c.length ≠ 0) : bs (textC c) ≠ ⟨#[45]⟩ := by
  intro e
  have e2 : textC c = [45] := by have := congrArg (fun x : ByteArray => x.data.toList) e; exact this
  have e3 : textC c = Lib.join (c.map textR) [32] := by unfold textC; rw [hr, if_neg h0]; rfl
  rw [e3] at e2
  cases c with
  | nil => exact h0 rfl
  | cons q c =>
    rw [List.map_cons, Lib.join_cons] at e2
    have h : (58 : UInt8) ∈ textR q ++ Lib.joinTail [32] (c.map textR) := by unfold textR; simp
    rw [e2] at h
    revert h; decide
end

end Go.Proofs.YtogoophofgkboaaGreatDoor
