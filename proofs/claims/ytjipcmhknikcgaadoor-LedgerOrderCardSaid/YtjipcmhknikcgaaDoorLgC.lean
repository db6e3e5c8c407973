/-
  Layer 22: a ledger in memory; the walks of New, Row, With, Sent. Conditions: rows of 64 bits.
-/
import Derived.Test.YtjipcmhknikcgaaDoorLgB
import Derived.Test.YtjipcmhknikcgaaDoorFlat
namespace Go.Proofs.YtjipcmhknikcgaaDoor
open Go.RowKit

theorem exec_loadL {P : Program} {ev : Operand → Value} {o : Oper} {T : TypeId} {x : Operand} {a : Addr} {v : Value} {w : World} (ho : o.op = .load T x) (hx : ev x = .pointer (some a)) (hl : (Instr.loadAt T (.pointer (some a))).run P w = .ok v w) : (execOp ev o).run P w = .ok (.value v) w := by
  unfold execOp
  simp only [ho, hx, Sem.run_bind, Sem.run_pure, Result.andThen_ok, hl]
theorem range_ofL {w : World} {B : Nat} {t : TypeId} {vs : List Value} (h : Blk w B t vs) : w.rangeAt B 0 vs := h.range 0 vs (fun j _ => by rw [Nat.zero_add])
/-- A ledger's fourteen rows at B. -/
structure LgAt (w : World) (B : Nat) (rs : List RwQ) : Prop where
  blk : Blk w B 57 (flatR rL rs)
  len : rs.length = 14
  ok : ∀ q ∈ rs, RwOk q
theorem LgAt.kept {S : Nat → Prop} {w w' : World} {B : Nat} {rs : List RwQ} (h : LgAt w B rs) (k : Kp S w w') (hB : ¬ S B) : LgAt w' B rs := ⟨h.blk.kept k hB, h.len, h.ok⟩
theorem rl_len (q : RwQ) : (rL q).length = 2 := rfl
def rowAt (rs : List RwQ) (j : Nat) : RwQ := rs[j]?.getD (0, 0)
def rowOf (rs : List RwQ) (k : Int) : RwQ := if knd k then rowAt rs (k - 1).toNat else (0, 0)
def setK (rs : List RwQ) (k : Int) (r : RwQ) : List RwQ := if knd k then rs.set (k - 1).toNat r else rs
theorem row0_ok : RwOk (0, 0) := by unfold RwOk u64R mx64; exact ⟨⟨by decide, by decide⟩, by decide, by decide⟩
theorem rowAt_ok {rs : List RwQ} (h : ∀ q ∈ rs, RwOk q) (j : Nat) : RwOk (rowAt rs j) := by
  unfold rowAt
  cases hi : rs[j]? with
  | none => exact row0_ok
  | some m => exact h m (List.mem_of_getElem? hi)
theorem rowOf_ok {rs : List RwQ} (h : ∀ q ∈ rs, RwOk q) (k : Int) : RwOk (rowOf rs k) := by
  unfold rowOf
  split
  · exact rowAt_ok h _
  · exact row0_ok
theorem LgAt.range {w : World} {B : Nat} {rs : List RwQ} (h : LgAt w B rs) (j : Nat) (hj : j < 14) : w.rangeAt B (j * 2) (rL (rowAt rs j)) := by
  have hb := h.blk
  rw [← List.append_nil (flatR rL rs)] at hb
  exact flat_range (f := rL) (z := (0, 0)) (c := 2) hb (fun q _ => rl_len q) j (by rw [h.len]; exact hj) (rl_len _)
set_option maxRecDepth 100000 in
set_option maxHeartbeats 4000000 in
theorem row_any (B : Nat) (rs : List RwQ) (kk : Int) (w : World) (h : LgAt w B rs) : Calls Tryd.prog 13 #[.pointer (some ⟨B, 0, none⟩), .int .i64 kk] w fun e w' => e = .returned (rV (rowOf rs kk)) ∧ Kp Nb w w' := by
  obtain ⟨du, hu, hd⟩ := rw_under
  have HU := hid hu
  obtain ⟨N, hN⟩ : ∃ N, w.heap.size = N := ⟨_, rfl⟩
  obtain ⟨W, hW⟩ : ∃ W, W = w.alloc (.cells (rL (0, 0)).toArray 29) := ⟨_, rfl⟩
  have H4 : Hid (Blk W N 29 (rL (0, 0))) := hid (by rw [hW, ← hN]; exact Blk.new w _ _)
  have kW : Kp Nb w W := by rw [hW]; exact (Kp.refl Nb w).alloc _
  have KW := hid kW
  have LN : Hid (w.heap.size ≤ N) := hid (Nat.le_of_eq hN)
  have HS := hid (h.kept kW (fun h => h))
  obtain ⟨bk, hbk⟩ : ∃ b, knd kk = b := ⟨_, rfl⟩
  have CK : Hid (∀ w, Calls Tryd.prog 21 #[.int .i64 kk] w fun e w' => e = .returned (.bool bk) ∧ w = w') := hid (fun w => by rw [← hbk]; exact kind_any kk w)
  obtain ⟨q, hq⟩ : ∃ q, rowOf rs kk = q := ⟨_, rfl⟩
  obtain ⟨P, hP⟩ : ∃ P, P = rL q := ⟨_, rfl⟩
  have TH : Hid (W.there N 0 P.toArray.size) := hid (by rw [List.size_toArray, hP]; exact H4.out.there 0 2 (Nat.le_refl _))
  have SL : Hid ((Tryd.prog.info? 29).map (·.size) = some P.length) := hid (by rw [hP]; exact rw_info)
  have SI : Hid ((Tryd.prog.info? 29).map (·.size) = some P.toArray.size) := hid (by rw [List.size_toArray]; exact SL.out)
  have ON : Hid (P.toArray.all (·.oneCell') = true) := hid (by rw [hP]; exact all_oneCell_toArray (rL_one _))
  have HF : Hid (Blk (W.setCells N 0 P) N 29 P) := hid (row_set H4.out (by rw [hP]; rfl))
  have K9 : Hid (Kp Nb w (W.setCells N 0 P)) := hid (Kp.setCells (fun h => by have := LN.out; omega) _ 0 _ KW.out)
  have HPE : Hid ((.agg P.toArray : Value) = rV q) := hid (by rw [hP])
  have HPL := hid hP
  rw [hq]
  cases bk with
  | false =>
    have HQ : Hid (q = (0, 0)) := hid (by rw [← hq]; unfold rowOf; rw [hbk]; rfl)
    have HB0 : Hid (∀ w, (Instr.build 29 #[]).run Tryd.prog w = .ok (.agg P.toArray) w) := hid (fun w => by rw [HPE.out, HQ.out]; exact build_row0 w)
    clear hP hq hbk hu h kW HS
    go_enter Tryd.func13, Tryd.ntmps13
    go_upto_region 1 with fail
    rw [show w.alloc (.cells #[.int .u64 0, .int .u64 0] 29) = W from hW.symm]
    clear hW hN
    go_wp2_with fail
    refine (CK.out _).mono ?_
    rintro e w1 ⟨rfl, rfl⟩
    go_wp2_with (first
      | (refine wpList_val (by rfl) _ _ (exec_build rfl (by simp) (HB0.out _)) ?_)
      | (refine wpList_store_mid (by rfl) 29 (.tmp 4) (.tmp 12) (by rfl) N 0 P.toArray (by rfl) (by rfl) TH.out SI.out ON.out ?_))
    have HF2 : Blk (W.setCells N 0 P) N 29 (rL q) := by rw [← HPL.out]; exact HF.out
    exact bodyPost_ret (results_cell rfl _ N (by rfl) _ (rw_loadVar q HF2)) rfl ⟨rfl, K9.out⟩
  | true =>
    have hk2 := of_decide_eq_true hbk
    obtain ⟨j, hj⟩ : ∃ j : Nat, kk - 1 = (j : Int) := ⟨(kk - 1).toNat, by omega⟩
    have hj14 : j < 14 := by omega
    have RQ : Hid (W.rangeAt B (j * 2) P) := hid (by
      have h2 := HS.out.range j hj14
      have e : rowAt rs j = q := by rw [← hq]; unfold rowOf; rw [hbk, if_pos rfl, hj, Int.toNat_natCast]
      rw [hP, ← e]
      exact h2)
    have hji : (j : Int) < 14 := by omega
    have hk1 : 1 ≤ kk := hk2.1
    have hk3 : kk ≤ 14 := hk2.2
    have hwr : IntKind.i64.wrap (kk - 1) = (j : Int) := by
      have e : IntKind.i64.wrap (kk - 1) = kk - 1 := by
        simp [IntKind.wrap, IntKind.bits, IntKind.signed]
        split <;> omega
      rw [e, hj]
    clear hP hq hbk hu h kW HS hk2
    go_enter Tryd.func13, Tryd.ntmps13
    go_upto_region 1 with fail
    rw [show w.alloc (.cells #[.int .u64 0, .int .u64 0] 29) = W from hW.symm]
    clear hW hN
    go_wp2_with fail
    refine (CK.out _).mono ?_
    rintro e w1 ⟨rfl, rfl⟩
    go_wp2_with (first
      | (refine wpList_load_mid (by rfl) 29 (.tmp 18) (by rfl) B (j * 2) (by rfl) P du RQ.out HU.out hd SL.out ?_)
      | (refine wpList_store_mid (by rfl) 29 (.tmp 4) (.tmp 19) (by rfl) N 0 P.toArray (by rfl) (by rfl) TH.out SI.out ON.out ?_))
    have HF2 : Blk (W.setCells N 0 P) N 29 (rL q) := by rw [← HPL.out]; exact HF.out
    exact bodyPost_ret (results_cell rfl _ N (by rfl) _ (rw_loadVar q HF2)) rfl ⟨rfl, K9.out⟩

theorem setK_ok {rs : List RwQ} (h : ∀ q ∈ rs, RwOk q) (k : Int) {r : RwQ} (hr : RwOk r) : ∀ q ∈ setK rs k r, RwOk q := fun q hq => by
  unfold setK at hq
  split at hq
  · rcases List.mem_or_eq_of_mem_set hq with h2 | h2
    · exact h q h2
    · rw [h2]; exact hr
  · exact h q hq
theorem setK_len (rs : List RwQ) (k : Int) (r : RwQ) : (setK rs k r).length = rs.length := by
  unfold setK
  split
  · exact List.length_set
  · rfl
theorem LgAt.put {w : World} {B : Nat} {rs : List RwQ} (h : LgAt w B rs) (j : Nat) (hj : j < 14) (r : RwQ) (hr : RwOk r) : LgAt (w.setCells B (j * 2) (rL r)) B (rs.set j r) ∧ w.there B (j * 2) 2 := by
  have hb := h.blk
  rw [← List.append_nil (flatR rL rs)] at hb
  have h2 := flat_put (f := rL) (c := 2) hb (fun q _ => rl_len q) j r (by rw [h.len]; exact hj) (rl_len r)
  rw [List.append_nil] at h2
  refine ⟨⟨h2, by rw [List.length_set]; exact h.len, fun q hq => ?_⟩, flat_there (f := rL) (c := 2) hb (fun q _ => rl_len q) j (by rw [h.len]; exact hj)⟩
  rcases List.mem_or_eq_of_mem_set hq with h3 | h3
  · exact h.ok q h3
  · rw [h3]; exact hr
/-- What stands while a row is stored. -/
structure WtS (W : World) (B : Nat) (rs rs' : List RwQ) (b : Bool) (w : World) : Prop where
  kp : Kp (Jb B) W w
  l0 : b = false → LgAt w B rs
  l1 : b = true → LgAt w B rs'
set_option maxRecDepth 100000 in
set_option maxHeartbeats 4000000 in
theorem with_any (B : Nat) (rs : List RwQ) (kk : Int) (r : RwQ) (w : World) (h : LgAt w B rs) (hr : RwOk r) : Calls Tryd.prog 8 #[.pointer (some ⟨B, 0, none⟩), .int .i64 kk, rV r] w fun e w' => e = .returned (.bool (knd kk)) ∧ LgAt w' B (setK rs kk r) ∧ Kp (Jb B) w w' := by
  obtain ⟨N, hN⟩ : ∃ N, w.heap.size = N := ⟨_, rfl⟩
  obtain ⟨W, hW⟩ : ∃ W, W = w.alloc (.cells (rL r).toArray 29) := ⟨_, rfl⟩
  have HN : Hid (Blk W N 29 (rL r)) := hid (by rw [hW, ← hN]; exact Blk.new w _ _)
  have kW : Kp Nb w W := by rw [hW]; exact (Kp.refl Nb w).alloc _
  have KW : Hid (Kp (Jb B) w W) := hid (kW.mono (fun _ _ h => h.elim))
  have HS := hid (h.kept kW (fun h => h))
  obtain ⟨bk, hbk⟩ : ∃ b, knd kk = b := ⟨_, rfl⟩
  have CK : Hid (∀ w, Calls Tryd.prog 21 #[.int .i64 kk] w fun e w' => e = .returned (.bool bk) ∧ w = w') := hid (fun w => by rw [← hbk]; exact kind_any kk w)
  have HR := hid hr
  have HNB : Hid (¬ Jb B N) := hid (fun e => by have e' : N = B := e; have := h.blk.lt; omega)
  rw [hbk]
  cases bk with
  | false =>
    have HE : Hid (setK rs kk r = rs) := hid (by unfold setK; rw [hbk]; rfl)
    clear hbk h kW
    go_enter Tryd.func8, Tryd.ntmps8
    go_upto_region 1 with fail
    rw [show w.alloc (.cells (rL r).toArray 29) = W from hW.symm]
    clear hW hN
    go_wp2_with fail
    refine (CK.out _).mono ?_
    rintro e w1 ⟨rfl, rfl⟩
    go_wp2
    go_ret
    exact ⟨rfl, by rw [HE.out]; exact HS.out, KW.out⟩
  | true =>
    have hk2 := of_decide_eq_true hbk
    obtain ⟨j, hj⟩ : ∃ j : Nat, kk - 1 = (j : Int) := ⟨(kk - 1).toNat, by omega⟩
    have hj14 : j < 14 := by omega
    have HE : Hid (setK rs kk r = rs.set j r) := hid (by unfold setK; rw [hbk, if_pos rfl, hj, Int.toNat_natCast])
    have HJ2 : Hid ((j : Int) < 14) := hid (by omega)
    have hwr : IntKind.i64.wrap (kk - 1) = (j : Int) := by
      have e : IntKind.i64.wrap (kk - 1) = kk - 1 := by
        simp [IntKind.wrap, IntKind.bits, IntKind.signed]
        split <;> omega
      rw [e, hj]
    have HJ : Hid (1 ≤ kk ∧ kk ≤ 14 ∧ IntKind.i64.wrap (kk - 1) = (j : Int)) := hid ⟨hk2.1, hk2.2, hwr⟩
    have HJ14 := hid hj14
    clear hbk h kW hk2 hj hj14 hwr
    go_enter Tryd.func8, Tryd.ntmps8
    go_upto_region 1 with fail
    rw [show w.alloc (.cells (rL r).toArray 29) = W from hW.symm]
    clear hW hN
    go_wp2_with fail
    refine (CK.out _).mono ?_
    rintro e w1 ⟨rfl, rfl⟩
    go_upto_region 3 with fail
    refine region_ghost (g0 := (() : Unit)) [none, none, none, none, none, none, none, none, none, none, none, none, none, none, some 0, some 1, some 2, some 3, some 4, some 5, some 6] [[(0, none)], [(1, none)], [(15, some 1)], [(5, none)], [(14, some 0)], [(18, some 4)], [(19, some 5), (16, some 2)], [(20, some 6), (17, some 3)]] [some 14, some 15, some 16, some 17, some 18, some 19, some 20, none] (fun g => [.pointer (some ⟨B, 0, none⟩), .int .i64 kk, .int .i64 (j : Int), rV r, .pointer (some ⟨B, 0, none⟩), .pointer (some ⟨B, 0, none⟩), .pointer (some ⟨B, j * 2, none⟩), undef]) [7] (fun (bs : List Bool) (_ : Unit) wq => Hid (WtS W B rs (rs.set j r) (bs.getD 0 false) wq)) (by kernel_rfl) (by kernel_rfl) (fun g => by kernel_rfl) (by kernel_rfl) ?hS (GFrom.all (n := 8) (by kernel_rfl) ?hstep) ?hend
    case hstep =>
      refine GFrom.cons (GStep.val _ rfl rfl _ rfl (fun g => .pointer (some ⟨B, 0, none⟩)) (fun _ => rfl) (fun _ => trivial) (fun bs g ev wq hS he hr => ?_)) ?_
      · have r0 : ev (.tmp 0) = .pointer (some ⟨B, 0, none⟩) := hr (0, none) (by simp); have hk := he.1; clear hr he
        go_simp
      refine GFrom.cons (GStep.val _ rfl rfl _ rfl (fun g => .int .i64 kk) (fun _ => rfl) (fun _ => trivial) (fun bs g ev wq hS he hr => ?_)) ?_
      · have r0 : ev (.tmp 1) = .int .i64 kk := hr (1, none) (by simp); have hk := he.1; clear hr he
        go_simp
      refine GFrom.cons (GStep.val _ rfl rfl _ rfl (fun g => .int .i64 (j : Int)) (fun _ => rfl) (fun _ => trivial) (fun bs g ev wq hS he hr => ?_)) ?_
      · have r0 : ev (.tmp 15) = .int .i64 kk := hr (15, some 1) (by simp); have hk := he.1; clear hr he
        have e1 := HJ.out.1; have e2 := HJ.out.2.1; have e3 := HJ.out.2.2
        go_simp
      refine GFrom.cons (GStep.val _ rfl rfl _ rfl (fun g => rV r) (fun _ => rfl) (fun _ => trivial) (fun bs g ev wq hS he hr => ?_)) ?_
      · have r0 : ev (.tmp 5) = .pointer (some ⟨N, 0, none⟩) := hr (5, none) (by simp); have hk := he.1; clear hr he
        exact exec_loadL rfl r0 (rw_load r (range_ofL (HN.out.kept hS.out.kp HNB.out)))
      refine GFrom.cons (GStep.val _ rfl rfl _ rfl (fun g => .pointer (some ⟨B, 0, none⟩)) (fun _ => rfl) (fun _ => trivial) (fun bs g ev wq hS he hr => ?_)) ?_
      · have r0 : ev (.tmp 14) = .pointer (some ⟨B, 0, none⟩) := hr (14, some 0) (by simp); have hk := he.1; clear hr he
        go_simp
      refine GFrom.cons (GStep.val _ rfl rfl _ rfl (fun g => .pointer (some ⟨B, 0, none⟩)) (fun _ => rfl) (fun _ => trivial) (fun bs g ev wq hS he hr => ?_)) ?_
      · have r0 : ev (.tmp 18) = .pointer (some ⟨B, 0, none⟩) := hr (18, some 4) (by simp); have hk := he.1; clear hr he
        go_simp
      refine GFrom.cons (GStep.val _ rfl rfl _ rfl (fun g => .pointer (some ⟨B, j * 2, none⟩)) (fun _ => rfl) (fun _ => trivial) (fun bs g ev wq hS he hr => ?_)) ?_
      · have r0 : ev (.tmp 19) = .pointer (some ⟨B, 0, none⟩) := hr (19, some 5) (by simp); have r1 : ev (.tmp 16) = .int .i64 (j : Int) := hr (16, some 2) (by simp); have hk := he.1; clear hr he
        have e1 := HJ2.out
        go_simp
      refine GFrom.cons (GStep.storem _ rfl _ rfl (fun _ => rfl) (fun _ => trivial) (fun L g ev wq hL hd hcl hS he hr => ?_)) ?_
      · have r0 : ev (.tmp 20) = .pointer (some ⟨B, j * 2, none⟩) := hr (20, some 6) (by simp); have r1 : ev (.tmp 17) = rV r := hr (17, some 3) (by simp); clear hr he
        obtain ⟨p1, p2⟩ := (hS.out.l0 (by simp [bitsAt, hL])).put j HJ14.out r HR.out
        exact ⟨_, exec_store rfl r0 r1 (rw_store r p2), hid ⟨Kp.setCells (S := Jb B) (fun _ => rfl) _ _ _ hS.out.kp, (fun e => by simp [bitsAt, upd] at e), fun _ => p1⟩⟩
      exact GFrom.nil
    case hS => exact hid ⟨(Kp.refl (Jb B) W).drew, fun _ => HS.out.kept (Kp.refl Nb W).drew (fun h => h), (fun e => by cases e)⟩
    case hend =>
      intro u wy hy
      have P1 := hid (hy.out.l1 rfl)
      have K9 : Hid (Kp (Jb B) w wy) := hid (KW.out.trans hy.out.kp (fun _ _ h => h))
      clear hy
      simp only [putAll, List.zip_cons_cons, List.zip_nil_right, List.foldl_cons, List.foldl_nil, Act.put, List.setIfInBounds_toArray, List.set_cons_zero, List.set_cons_succ]
      go_wp2
      go_ret
      exact ⟨rfl, by rw [HE.out]; exact P1.out, K9.out⟩

end Go.Proofs.YtjipcmhknikcgaaDoor
